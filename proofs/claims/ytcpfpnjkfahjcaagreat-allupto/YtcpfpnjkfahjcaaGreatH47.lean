import Derived.Test.YtcpfpnjkfahjcaaGreatH46
import Derived.Test.YtcpfpnjkfahjcaaGreatH43
set_option linter.unusedSimpArgs false
set_option linter.unusedVariables false
namespace Go.Proofs.YtcpfpnjkfahjcaaGreat
open Go.RowKit
def markV (z:Int):List Value:=[.int .i64 z,.int .i64 0,.int .i64 0,.int .i64 0,.slice none 0 0]
def mks (z:Int):Nat→List Value
 | 0=>[]
 | n+1=>mks z n++markV z
theorem mks_length (z:Int):∀ n,(mks z n).length=n * 5
 | 0=>rfl
 | n+1=>by rw [mks,List.length_append,mks_length z n];simp [markV];omega
theorem mks_get (z:Int):∀ (n j k:Nat),j < n→k < 5→(mks z n)[j * 5+k]?=(markV z)[k]?
 | 0,j,k,hj,_=>by omega
 | n+1,j,k,hj,hk=>by
  rw [mks]
  rcases Nat.lt_or_ge j n with h|h
  ·rw [List.getElem?_append_left (by rw [mks_length];omega)]
   exact mks_get z n j k h hk
  ·have e:j=n:=by omega
   subst e
   rw [List.getElem?_append_right (by rw [mks_length];omega),mks_length]
   congr 1;omega
def REnt (w:World) (v:Value) (z:Int):Prop:=(∃ c,v=.slice none 0 c)∨∃ g n cap cur,v=.slice (some ⟨g,0,none⟩) n cap∧(n≤cap∧cap≤maxLen)∧w.heap[g]?=some (.cells cur 94 (0,0))∧cur.toList.take (n * 5)=mks z n
theorem REnt.keep {w w':World} {v:Value} {z:Int} (h:REnt w v z) (hk:∀ g cur,v.ownBlock=some g→w.heap[g]?=some (.cells cur 94 (0,0))→∃ cur',w'.heap[g]?=some (.cells cur' 94 (0,0))∧cur'.toList.take (vLen v * 5)=cur.toList.take (vLen v * 5)):REnt w' v z:=by
 rcases h with h|⟨g,n,cap,cur,rfl,h1,h2,h3⟩
 ·exact Or.inl h
 ·obtain⟨cur',e1,e2⟩:=hk g cur rfl h2
  exact Or.inr ⟨g,n,cap,cur',rfl,h1,e1,e2.trans h3⟩
theorem REnt.upd {w w':World} {v:Value} {z:Int} {l:List Nat} (h:REnt w v z) (u:Upd l w w') (hl:∀ g,v.ownBlock=some g→g∉l):REnt w' v z:=
 h.keep fun g cur hg hc=>⟨cur,(u.block g (lt_of_heap hc) (hl g hg)).trans hc,rfl⟩
def RcO (w:World) (b:Nat) (v:Value) (n:Nat) (z:Int):Prop:=w.ownsRow b 94 5 v n (mks z n)
theorem RcO.upd {w w':World} {b:Nat} {v:Value} {n:Nat} {z:Int} (h:RcO w b v n z) {l:List Nat} (u:Upd l w w') (hl:∀ g,v.ownBlock=some g→g∉l):RcO w' b v n z:=ownsRow_same h (fun k hk hlt=>u.block k hlt (hl k hk))
theorem RcO.ent {w:World} {b:Nat} {v:Value} {n:Nat} {z:Int} (h:RcO w b v n z):REnt w v z:=by
 rcases h.2 with ⟨q,_⟩|⟨g,cap,cur,rfl,_,hg,h1,hcm,_,h2⟩
 ·exact Or.inl ⟨0,q⟩
 ·exact Or.inr ⟨g,n,cap,cur,rfl,⟨h1,hcm⟩,hg,h2⟩
theorem REnt.ty {w:World} {v:Value} {z:Int} (h:REnt w v z) {g:Nat} (hg:v.ownBlock=some g):∃ a,w.heap[g]?=some (.cells a 94 (0,0)):=by
 rcases h with ⟨c,q⟩|⟨g',n',cap',cur',q,_,q2,_⟩
 ·rw [q] at hg;cases hg
 ·rw [q] at hg;simp [Value.ownBlock] at hg;subst hg;exact⟨_,q2⟩
structure RcAt (T:List Nat) (e0:List (Value×Int)) (B0:Nat) (wc w:World) (b M:Nat) (n z:Int) (cR cQ pS pN vR vQ:Value) (kS kN:Nat) (xs ys:List Value) (es:List (Value×Int)) (vl:Value) (ln:Nat):Prop where
 cell:w.heap[b]?=some (.cells #[.int .i64 n,pS,pN,cR,cQ] 36 (0,0))
 s:w.ownsRow B0 92 1 vR kS xs
 n:w.ownsRow B0 3 1 vQ kN ys
 ent:∀ x∈es,REnt w x.1 x.2
 far:∀ x∈es,∀ g,x.1.ownBlock=some g→vl.ownBlock=some g→vLen x.1≤ln
 mark:w.heap[M]?=some (.cells #[.int .i64 z,.int .i64 0,.int .i64 0,.int .i64 0,.slice none 0 0] 94 (0,0))
 notM:∀ x∈es,x.1.ownBlock≠some M
 lM:vl.ownBlock≠some M
 l:RcO w B0 vl ln z
 up:Upd T wc w
 bb:B0≤b
 ts:Lies T wc vR
 tn:Lies T wc vQ
 tl:Lies T wc vl
 tb:b∈T∨wc.heap.size≤b
 hB:B0≤wc.heap.size
 new:∀ x∈es,x∈e0∨Lies T wc x.1
theorem RcAt.upd {T:List Nat} {e0:List (Value×Int)} {B0:Nat} {wc w w':World} {b M:Nat} {n z:Int} {cR cQ pS pN vR vQ:Value} {kS kN:Nat} {xs ys:List Value} {es:List (Value×Int)} {vl:Value} {ln:Nat} (h:RcAt T e0 B0 wc w b M n z cR cQ pS pN vR vQ kS kN xs ys es vl ln) (u:Upd [] w w'):RcAt T e0 B0 wc w' b M n z cR cQ pS pN vR vQ kS kN xs ys es vl ln:=
 ⟨(u.block b (lt_of_heap h.cell) (by simp)).trans h.cell,ownsRow_same h.s (fun q _ hlt=>u.block q hlt (by simp)),ownsRow_same h.n (fun q _ hlt=>u.block q hlt (by simp)),fun x hx=>(h.ent x hx).upd u (by simp),h.far,(u.block M (lt_of_heap h.mark) (by simp)).trans h.mark,h.notM,h.lM,h.l.upd u (by simp),h.up.trans (u.mono (by simp)),h.bb,h.ts,h.tn,h.tl,h.tb,h.hB,h.new⟩
theorem RcAt.moreS {T:List Nat} {e0:List (Value×Int)} {B0:Nat} {wc w w':World} {b M:Nat} {n z:Int} {cR cQ pS pN vR vQ vR':Value} {kS kN kS':Nat} {xs ys xs':List Value} {es:List (Value×Int)} {vl:Value} {ln:Nat} (h:RcAt T e0 B0 wc w b M n z cR cQ pS pN vR vQ kS kN xs ys es vl ln) (g:w.grownBy w' vR.ownBlock) (hs:w'.ownsRow B0 92 1 vR' kS' xs') (hloc:vR'.ownBlock=vR.ownBlock∨vR'.ownBlock=some w.heap.size):RcAt T e0 B0 wc w' b M n z cR cQ pS pN vR' vQ kS' kN xs' ys es vl ln:=by
 have u:=Upd.of_grown g
 have hty:∀ {q:Nat} {a:Array Value} {T:TypeId},w.heap[q]?=some (.cells a T (0,0))→T≠92→q∉vR.ownBlock.toList:=fun {q a T} hq hT hm=>by
  obtain⟨c,hc⟩:=own_tyC h.s (k:=q) (by simpa using hm)
  exact ty_neC hq hc hT rfl
 refine⟨(u.block b (lt_of_heap h.cell) (hty h.cell (by decide))).trans h.cell,hs,ownsRow_same h.n (fun q hq hlt=>u.block q hlt ?_),fun x hx=>(h.ent x hx).upd u (fun q hq=>?_),h.far,(u.block M (lt_of_heap h.mark) (hty h.mark (by decide))).trans h.mark,h.notM,h.lM,h.l.upd u (fun q hq=>?_),low_grown h.up g h.ts,h.bb,h.ts.loc h.up.size hloc,h.tn,h.tl,h.tb,h.hB,h.new⟩
 ·obtain⟨a,ha⟩:=own_tyC h.n hq;exact hty ha (by decide)
 ·obtain⟨a,ha⟩:=(h.ent x hx).ty hq;exact hty ha (by decide)
 ·obtain⟨a,ha⟩:=own_tyC h.l hq;exact hty ha (by decide)
theorem RcAt.moreN {T:List Nat} {e0:List (Value×Int)} {B0:Nat} {wc w w':World} {b M:Nat} {n z:Int} {cR cQ pS pN vR vQ vQ':Value} {kS kN kN':Nat} {xs ys ys':List Value} {es:List (Value×Int)} {vl:Value} {ln:Nat} (h:RcAt T e0 B0 wc w b M n z cR cQ pS pN vR vQ kS kN xs ys es vl ln) (g:w.grownBy w' vQ.ownBlock) (hs:w'.ownsRow B0 3 1 vQ' kN' ys') (hloc:vQ'.ownBlock=vQ.ownBlock∨vQ'.ownBlock=some w.heap.size):RcAt T e0 B0 wc w' b M n z cR cQ pS pN vR vQ' kS kN' xs ys' es vl ln:=by
 have u:=Upd.of_grown g
 have hty:∀ {q:Nat} {a:Array Value} {T:TypeId},w.heap[q]?=some (.cells a T (0,0))→T≠3→q∉vQ.ownBlock.toList:=fun {q a T} hq hT hm=>by
  obtain⟨c,hc⟩:=own_tyC h.n (k:=q) (by simpa using hm)
  exact ty_neC hq hc hT rfl
 refine⟨(u.block b (lt_of_heap h.cell) (hty h.cell (by decide))).trans h.cell,ownsRow_same h.s (fun q hq hlt=>u.block q hlt ?_),hs,fun x hx=>(h.ent x hx).upd u (fun q hq=>?_),h.far,(u.block M (lt_of_heap h.mark) (hty h.mark (by decide))).trans h.mark,h.notM,h.lM,h.l.upd u (fun q hq=>?_),low_grown h.up g h.tn,h.bb,h.ts,h.tn.loc h.up.size hloc,h.tl,h.tb,h.hB,h.new⟩
 ·obtain⟨a,ha⟩:=own_tyC h.s hq;exact hty ha (by decide)
 ·obtain⟨a,ha⟩:=(h.ent x hx).ty hq;exact hty ha (by decide)
 ·obtain⟨a,ha⟩:=own_tyC h.l hq;exact hty ha (by decide)
theorem RcAt.put {T:List Nat} {e0:List (Value×Int)} {B0:Nat} {wc w:World} {b M o:Nat} {n z:Int} {cR cQ pS pN vR vQ cR' cQ' u0:Value} {kS kN:Nat} {xs ys:List Value} {es:List (Value×Int)} {vl:Value} {ln:Nat} (h:RcAt T e0 B0 wc w b M n z cR cQ pS pN vR vQ kS kN xs ys es vl ln) (e:(#[.int .i64 n,pS,pN,cR,cQ]:Array Value).setIfInBounds o u0=#[.int .i64 n,pS,pN,cR',cQ']):RcAt T e0 B0 wc (w.setCell ⟨b,o,none⟩ u0) b M n z cR' cQ' pS pN vR vQ kS kN xs ys es vl ln:=by
 have u:Upd [b] w (w.setCell ⟨b,o,none⟩ u0):=Upd.setCell (Upd.refl _ _) (by simp) _
 have hty:∀ {q:Nat} {a:Array Value} {T:TypeId},w.heap[q]?=some (.cells a T (0,0))→T≠36→q∉[b]:=fun {q a T} hq hT hm=>by
  have:q=b:=by simpa using hm
  exact ty_neC hq h.cell hT this
 refine⟨by rw [heap_set h.cell o u0,e],ownsRow_same h.s (fun q hq hlt=>u.block q hlt ?_),ownsRow_same h.n (fun q hq hlt=>u.block q hlt ?_),fun x hx=>(h.ent x hx).upd u (fun q hq=>?_),h.far,(u.block M (lt_of_heap h.mark) (hty h.mark (by decide))).trans h.mark,h.notM,h.lM,h.l.upd u (fun q hq=>?_),low_upd h.up u (fun q hq=>by have e:q=b:=(by simpa using hq);subst e;exact h.tb),h.bb,h.ts,h.tn,h.tl,h.tb,h.hB,h.new⟩
 ·obtain⟨a,ha⟩:=own_tyC h.s hq;exact hty ha (by decide)
 ·obtain⟨a,ha⟩:=own_tyC h.n hq;exact hty ha (by decide)
 ·obtain⟨a,ha⟩:=(h.ent x hx).ty hq;exact hty ha (by decide)
 ·obtain⟨a,ha⟩:=own_tyC h.l hq;exact hty ha (by decide)
theorem RcAt.entry {T:List Nat} {e0:List (Value×Int)} {B0:Nat} {wc w:World} {b M:Nat} {n z:Int} {cR cQ pS pN vR vQ:Value} {kS kN:Nat} {xs ys:List Value} {es:List (Value×Int)} {vl:Value} {ln:Nat} (h:RcAt T e0 B0 wc w b M n z cR cQ pS pN vR vQ kS kN xs ys es vl ln) (hl:vLen vl=ln):RcAt T e0 B0 wc w b M n z cR cQ pS pN vR vQ kS kN xs ys (es++[(vl,z)]) vl ln:=by
 have sp:∀ x,x∈es++[(vl,z)]→x∈es∨x=(vl,z):=fun x hx=>by simpa using hx
 refine⟨h.cell,h.s,h.n,fun x hx=>?_,fun x hx g h1 h2=>?_,h.mark,fun x hx=>?_,h.lM,h.l,h.up,h.bb,h.ts,h.tn,h.tl,h.tb,h.hB,fun x hx=>?_⟩
 ·rcases sp x hx with q|rfl
  ·exact h.ent x q
  ·exact h.l.ent
 ·rcases sp x hx with q|rfl
  ·exact h.far x q g h1 h2
  ·exact Nat.le_of_eq hl
 ·rcases sp x hx with q|rfl
  ·exact h.notM x q
  ·exact h.lM
 ·rcases sp x hx with q|rfl
  ·exact h.new x q
  ·exact Or.inr h.tl
theorem RcAt.moreL {T:List Nat} {e0:List (Value×Int)} {B0:Nat} {wc w w':World} {b M:Nat} {n z:Int} {cR cQ pS pN vR vQ vl vl':Value} {kS kN:Nat} {xs ys:List Value} {es:List (Value×Int)} {ln:Nat} (h:RcAt T e0 B0 wc w b M n z cR cQ pS pN vR vQ kS kN xs ys es vl ln) (g:w.grownBy w' vl.ownBlock) (hs:w'.ownsRow B0 94 5 vl' (ln+1) (mks z ln++markV z)) (hloc:vl'.ownBlock=vl.ownBlock∨(vl'.ownBlock=some w.heap.size∧w.grownBy w' none)):RcAt T e0 B0 wc w' b M n z cR cQ pS pN vR vQ kS kN xs ys es vl' (ln+1):=by
 have u:=Upd.of_grown g
 have hty:∀ {q:Nat} {a:Array Value} {T:TypeId},w.heap[q]?=some (.cells a T (0,0))→T≠94→q∉vl.ownBlock.toList:=fun {q a T} hq hT hm=>by
  obtain⟨c,hc⟩:=own_tyC h.l (k:=q) (by simpa using hm)
  exact ty_neC hq hc hT rfl
 have hL:RcO w' B0 vl' (ln+1) z:=hs
 have hblk:∀ q cur,w.heap[q]?=some (.cells cur 94 (0,0))→vl.ownBlock=some q→∃ cur',w'.heap[q]?=some (.cells cur' 94 (0,0))∧cur'.toList.take (ln * 5)=cur.toList.take (ln * 5):=fun q cur hc hq=>by
  rcases hloc with e|⟨e,gn⟩
  ·obtain⟨h1,h2⟩:=hs
   rcases h2 with ⟨p,_⟩|⟨g',cap',cur',p,_,p3,_,_,_,p7⟩
   ·rw [p] at e;rw [hq] at e;cases e
   ·rw [p,hq] at e;simp [Value.ownBlock] at e;subst e
    refine⟨cur',p3,?_⟩
    obtain⟨_,l2⟩:=h.l
    rcases l2 with ⟨l3,_⟩|⟨g2,cap2,cur2,l3,_,l5,_,_,_,l9⟩
    ·rw [l3] at hq;cases hq
    ·rw [l3] at hq;simp [Value.ownBlock] at hq;subst hq
     rw [hc] at l5
     injection l5 with l5
     injection l5 with l5 _ _
     subst l5
     rw [l9]
     have e1:(cur'.toList.take ((ln+1) * 5)).take (ln * 5)=cur'.toList.take (ln * 5):=by rw [List.take_take,Nat.min_eq_left (by omega)]
     rw [← e1,p7]
     have e2:(mks z ln).length=ln * 5:=mks_length _ _
     rw [← e2];exact List.take_left
  ·exact⟨cur,((Upd.of_grown gn).block q (lt_of_heap hc) (by simp)).trans hc,rfl⟩
 refine⟨(u.block b (lt_of_heap h.cell) (hty h.cell (by decide))).trans h.cell,ownsRow_same h.s (fun q hq hlt=>u.block q hlt ?_),ownsRow_same h.n (fun q hq hlt=>u.block q hlt ?_),fun x hx=>(h.ent x hx).keep (fun q cur hq hc=>?_),fun x hx q h1 h2=>?_,(u.block M (lt_of_heap h.mark) (fun hm=>h.lM (by simpa using hm))).trans h.mark,h.notM,fun hm=>?_,hL,low_grown h.up g h.tl,h.bb,h.ts,h.tn,h.tl.loc h.up.size (hloc.imp id (fun q=>q.1)),h.tb,h.hB,h.new⟩
 ·obtain⟨a,ha⟩:=own_tyC h.s hq;exact hty ha (by decide)
 ·obtain⟨a,ha⟩:=own_tyC h.n hq;exact hty ha (by decide)
 ·by_cases hv:vl.ownBlock=some q
  ·obtain⟨cur',e1,e2⟩:=hblk q cur hc hv
   have:=h.far x hx q hq hv
   exact⟨cur',e1,take_take (by omega) e2⟩
  ·exact⟨cur,(u.block q (lt_of_heap hc) (by simpa using hv)).trans hc,rfl⟩
 ·rcases hloc with e|⟨e,_⟩
  ·have:=h.far x hx q h1 (by rw [← e];exact h2);omega
  ·obtain⟨a,ha⟩:=(h.ent x hx).ty h1
   rw [e] at h2
   have:=lt_of_heap ha
   injection h2 with h2
   omega
 ·rcases hloc with e|⟨e,_⟩
  ·exact h.lM (by rw [← e];exact hm)
  ·rw [e] at hm
   have:=lt_of_heap h.mark
   injection hm with hm
   omega
structure BkA (B0:Nat) (w:World) (b kS kR:Nat) (n:Int) (vS vN vR vQ:Value) (es rs:List (Value×Int)):Prop where
 S:BkAt B0 w b kS n vS vN vR vQ es
 r:w.ownsRow B0 92 1 vR kR (rs.map (·.1))
 q:w.ownsRow B0 3 1 vQ kR (rs.map fun x=>.int .i64 x.2)
 nq:∀ g,vN.ownBlock=some g→vQ.ownBlock≠some g
 ent:∀ x∈rs,REnt w x.1 x.2
 one:∀ x∈rs,x.1.oneCell'=true
theorem Ent.tyI {w:World} {v:Value} {z:Int} (h:Ent w v z) {g:Nat} (hg:v.ownBlock=some g):TyIs w g 66:=h.ty hg
theorem REnt.tyI {w:World} {v:Value} {z:Int} (h:REnt w v z) {g:Nat} (hg:v.ownBlock=some g):TyIs w g 94:=h.ty hg
theorem BkA.same {B0:Nat} {w w':World} {b kS kR:Nat} {n:Int} {vS vN vR vQ:Value} {es rs:List (Value×Int)} (A:BkA B0 w b kS kR n vS vN vR vQ es rs) (h:∀ k T,TyIs w k T→bokT T=true→w'.heap[k]?=w.heap[k]?):BkA B0 w' b kS kR n vS vN vR vQ es rs:=
 ⟨⟨(h b _ ⟨_,A.S.cell⟩ rfl).trans A.S.cell,ownsRow_same A.S.s (fun k hk _=>h k _ (own_tyP A.S.s hk) rfl),ownsRow_same A.S.n (fun k hk _=>h k _ (own_tyP A.S.n hk) rfl),A.S.bb,fun x hx=>(A.S.ent x hx).keep (fun g cur hg hc=>⟨cur,(h g _ ⟨_,hc⟩ rfl).trans hc,rfl⟩),A.S.one⟩,ownsRow_same A.r (fun k hk _=>h k _ (own_tyP A.r hk) rfl),ownsRow_same A.q (fun k hk _=>h k _ (own_tyP A.q hk) rfl),A.nq,fun x hx=>(A.ent x hx).keep (fun g cur hg hc=>⟨cur,(h g _ ⟨_,hc⟩ rfl).trans hc,rfl⟩),A.one⟩
theorem BkA.upd {B:TypeId→Bool} {B0:Nat} {w w':World} {b kS kR:Nat} {n:Int} {vS vN vR vQ:Value} {es rs:List (Value×Int)} {l:List Nat} (A:BkA B0 w b kS kR n vS vN vR vQ es rs) (u:Upd l w w') (hl:LTy B w l) (hB:∀ T,bokT T=true→B T=false):BkA B0 w' b kS kR n vS vN vR vQ es rs:=
 A.same (fun k T hk hT=>u.ty hl hk (hB T hT))
theorem BkA.upd0 {B0:Nat} {w w':World} {b kS kR:Nat} {n:Int} {vS vN vR vQ:Value} {es rs:List (Value×Int)} (A:BkA B0 w b kS kR n vS vN vR vQ es rs) (u:Upd [] w w'):BkA B0 w' b kS kR n vS vN vR vQ es rs:=
 A.same (fun k T hk _=>u.block k hk.lt (by simp))
theorem bokT_is {T:TypeId} (h:bokT T=true):T=36∨T=37∨T=3∨T=92∨T=66∨T=94:=by
 simpa [bokT,or_assoc] using h
theorem bok_str:∀ T,bokT T=true→strT T=false:=fun T h=>by rcases bokT_is h with rfl|rfl|rfl|rfl|rfl|rfl<;>rfl
structure Bf (B0:Nat) (w w':World):Prop where
 os:w'.os=w.os
 tape:w'.tape=w.tape
 output:w'.output=w.output
 size:w.heap.size≤w'.heap.size
 block:∀ k,k < w.heap.size→(k < B0∨∃ T,TyIs w k T∧bokT T=false)→w'.heap[k]?=w.heap[k]?
theorem Bf.refl (B0:Nat) (w:World):Bf B0 w w:=⟨rfl,rfl,rfl,Nat.le_refl _,fun _ _ _=>rfl⟩
theorem Bf.trans {B0:Nat} {a b c:World} (h:Bf B0 a b) (k:Bf B0 b c):Bf B0 a c:=
 ⟨k.os.trans h.os,k.tape.trans h.tape,k.output.trans h.output,Nat.le_trans h.size k.size,fun q hq hc=>(k.block q (Nat.lt_of_lt_of_le hq h.size) (by
  rcases hc with e|⟨T,⟨x,hx⟩,hT⟩
  ·exact Or.inl e
  ·exact Or.inr ⟨T,⟨x,(h.block q hq (Or.inr ⟨T,⟨x,hx⟩,hT⟩)).trans hx⟩,hT⟩)).trans (h.block q hq hc)⟩
theorem Bf.of {B0:Nat} {w w':World} {l:List Nat} (u:Upd l w w') (hl:∀ k,k∈l→B0≤k∧∃ T,TyIs w k T∧bokT T=true):Bf B0 w w':=
 ⟨u.os,u.tape,u.output,u.size,fun k hk hc=>u.block k hk (fun hm=>by
  obtain⟨h1,U,h2,h3⟩:=hl k hm
  rcases hc with e|⟨T,hT,hF⟩
  ·omega
  ·rw [TyIs.uniq h2 hT,hF] at h3;cases h3)⟩
theorem Bf.of0 {B0:Nat} {w w':World} (u:Upd [] w w'):Bf B0 w w':=Bf.of u (fun k hk=>by cases hk)
theorem Bf.ty {B0:Nat} {w w':World} (h:Bf B0 w w') {k:Nat} {T:TypeId} (hk:TyIs w k T) (hT:bokT T=false):w'.heap[k]?=w.heap[k]?:=h.block k hk.lt (Or.inr ⟨T,hk,hT⟩)
theorem Bf.pat {B0:Nat} {w w':World} (h:Bf B0 w w'):∀ k,PatTy w k→w'.heap[k]?=w.heap[k]?:=fun k ⟨T,h1,h2⟩=>h.ty h1 (bokT_not T h2)
theorem Bf.low {B0:Nat} {w0 w w':World} (h:Bf B0 w w') (u:Upd [] w0 w) (hB:w0.heap.size≤B0):Upd [] w0 w':=
 ⟨h.os.trans u.os,h.tape.trans u.tape,h.output.trans u.output,Nat.le_trans u.size h.size,fun k hk hn=>(h.block k (Nat.lt_of_lt_of_le hk u.size) (Or.inl (by omega))).trans (u.block k hk hn)⟩
theorem T_ty {B0:Nat} {w:World} {b kS kR m:Nat} {n:Int} {vS vN vR vQ v:Value} {es rs:List (Value×Int)} {f:Nat→Int×Int} (A:BkA B0 w b kS kR n vS vN vR vQ es rs) (L:SpO w B0 v m f) {k:Nat} (hk:k∈b::(vS.ownBlock.toList++(vN.ownBlock.toList++v.ownBlock.toList))):B0≤k∧((k=b∧TyIs w k 36)∨(vS.ownBlock=some k∧TyIs w k 37)∨(vN.ownBlock=some k∧TyIs w k 3)∨(v.ownBlock=some k∧TyIs w k 66)):=by
 rcases List.mem_cons.mp hk with e|e
 ·subst e;exact⟨A.S.bb,Or.inl ⟨rfl,⟨_,A.S.cell⟩⟩⟩
 rcases List.mem_append.mp e with e|e
 ·have e':vS.ownBlock=some k:=by simpa using e
  exact⟨(ownBlock_lt A.S.s e').2,Or.inr (Or.inl ⟨e',own_tyP A.S.s e'⟩)⟩
 rcases List.mem_append.mp e with e|e
 ·have e':vN.ownBlock=some k:=by simpa using e
  exact⟨(ownBlock_lt A.S.n e').2,Or.inr (Or.inr (Or.inl ⟨e',own_tyP A.S.n e'⟩))⟩
 ·have e':v.ownBlock=some k:=by simpa using e
  exact⟨(ownBlock_lt L e').2,Or.inr (Or.inr (Or.inr ⟨e',own_tyP L e'⟩))⟩
theorem T_not {B0:Nat} {w:World} {b kS kR m:Nat} {n:Int} {vS vN vR vQ v:Value} {es rs:List (Value×Int)} {f:Nat→Int×Int} (A:BkA B0 w b kS kR n vS vN vR vQ es rs) (L:SpO w B0 v m f) {k:Nat} {T:TypeId} (hT:TyIs w k T) (h1:T≠36) (h2:T≠37) (h3:T≠3∨vN.ownBlock≠some k) (h4:T≠66):k∉b::(vS.ownBlock.toList++(vN.ownBlock.toList++v.ownBlock.toList)):=fun hk=>by
 rcases (T_ty A L hk).2 with ⟨_,e⟩|⟨_,e⟩|⟨e',e⟩|⟨_,e⟩
 ·exact h1 (TyIs.uniq hT e)
 ·exact h2 (TyIs.uniq hT e)
 ·rcases h3 with h3|h3
  ·exact h3 (TyIs.uniq hT e)
  ·exact h3 e'
 ·exact h4 (TyIs.uniq hT e)
theorem aSpans_any (B0 b kS kR:Nat) (n:Int) (vS vN vR vQ:Value) (es rs:List (Value×Int)) (w:World) (v:Value) (m:Nat) (f:Nat→Int×Int) (A:BkA B0 w b kS kR n vS vN vR vQ es rs) (L:SpO w B0 v m f) (hFar:∀ x∈es,∀ g,v.ownBlock=some g→x.1.ownBlock≠some g) (hB0:B0≤w.heap.size) (hm:m≤20) (hk:kS≤60000000) (hn:0≤n∧n≤60000000):Calls Tryz.prog 11 #[.pointer (some ⟨b,0,none⟩),v] w fun e w'=>∃ vS' vN' es',e=.returned (.tuple #[])∧BkA B0 w' b (kS+4) kR (n+1) vS' vN' vR vQ es' rs∧Upd (b::(vS.ownBlock.toList++(vN.ownBlock.toList++v.ownBlock.toList))) w w'∧Lies (b::(vS.ownBlock.toList++(vN.ownBlock.toList++v.ownBlock.toList))) w vS'∧Lies (b::(vS.ownBlock.toList++(vN.ownBlock.toList++v.ownBlock.toList))) w vN'∧(∀ x∈es',x∈es∨Lies (b::(vS.ownBlock.toList++(vN.ownBlock.toList++v.ownBlock.toList))) w x.1):=by
 refine (bSpans_any B0 b kS n vS vN vR vQ es w v m f _ A.S L hFar rfl hB0 hm hk hn).mono ?_
 rintro e w' ⟨vS',vN',es',rfl,S',u,l1,l2,l3⟩
 refine⟨vS',vN',es',rfl,⟨S',ownsRow_same A.r (fun k hk hlt=>u.block k hlt (T_not A L (own_tyP A.r hk) (by decide) (by decide) (Or.inl (by decide)) (by decide))),ownsRow_same A.q (fun k hk hlt=>u.block k hlt (T_not A L (own_tyP A.q hk) (by decide) (by decide) (Or.inr (fun e=>A.nq k e hk)) (by decide))),fun g hg hq=>?_,fun x hx=>(A.ent x hx).upd u (fun g hg=>T_not A L ((A.ent x hx).tyI hg) (by decide) (by decide) (Or.inl (by decide)) (by decide)),A.one⟩,u,l1,l2,l3⟩
 rcases l2 g hg with e|e
 ·exact T_not A L (own_tyP A.q hq) (by decide) (by decide) (Or.inr (fun e=>A.nq g e hq)) (by decide) e
 ·have:=(ownBlock_lt A.q hq).1;omega
theorem aSpans_bf {B0:Nat} {w w':World} {b kS kR m:Nat} {n:Int} {vS vN vR vQ v:Value} {es rs:List (Value×Int)} {f:Nat→Int×Int} (A:BkA B0 w b kS kR n vS vN vR vQ es rs) (L:SpO w B0 v m f) (u:Upd (b::(vS.ownBlock.toList++(vN.ownBlock.toList++v.ownBlock.toList))) w w'):Bf B0 w w':=
 Bf.of u (fun k hk=>by
  obtain⟨h1,h2⟩:=T_ty A L hk
  refine⟨h1,?_⟩
  rcases h2 with ⟨_,e⟩|⟨_,e⟩|⟨_,e⟩|⟨_,e⟩<;>exact⟨_,e,rfl⟩)
theorem RecSp.spo {w:World} {a:Option Addr} {m n b:Nat} {r:Option (Nat→Int×Int)} (h:RecSp w a m n r) (hb:∀ q o s,a=some ⟨q,o,s⟩→b≤q) (hn:n≤1000):SpO w b (.slice a m m) (spLen n r) (spFun r):=by
 cases r with
 | none=>obtain⟨rfl,rfl⟩:=h;exact⟨flat_length 0 _,Or.inl ⟨rfl,rfl⟩⟩
 | some f=>
  obtain⟨q,rfl,rfl,e3⟩:=h
  obtain⟨h1,h2⟩:=SpansAt.own e3 hn
  refine⟨h1,?_⟩
  rcases h2 with ⟨p,_⟩|⟨g',cap,cur,p,_,e4⟩
  ·cases p
  ·unfold spansV at p
   injection p with q1 q2 q3
   injection q1 with q1
   injection q1 with q1 _ _
   subst q1
   subst q3
   exact Or.inr ⟨q,m,cur,rfl,hb q 0 none rfl,e4⟩
theorem RecsL.keepT {w w':World} {n hi:Nat} {T:List Nat} (u:Upd T w w'):∀ {lo:Nat} {rs:List Sp.Rec} {xs:List Value},RecsL w n hi lo rs xs→(∀ k,k∈T→k < lo∨hi≤k)→RecsL w' n hi lo rs xs
 | lo,[],xs,h,_=>h
 | lo,r::rs,xs,h,hT=>by
  obtain⟨a,m,ys,l2,e,h1,h3,h2⟩:=h
  have hle:=h2.le
  refine⟨a,m,ys,l2,e,?_,h3,h2.keepT u (fun k hk=>by have:=hT k hk;have:=h3.1;omega)⟩
  revert h1
  cases r.sp with
  | none=>exact fun h=>h
  | some f=>
   rintro ⟨q,e1,e2,e3⟩
   refine⟨q,e1,e2,(u.block q (lt_of_heap e3) (fun hm=>?_)).trans e3⟩
   have:=h3.2 q 0 none e1
   have:=hT q hm
   omega
def Out (lo hi:Nat) (v:Value):Prop:=∀ g,v.ownBlock=some g→g < lo∨hi≤g
theorem Out.more {lo l2 hi:Nat} {v:Value} (h:Out lo hi v) (hl:lo≤l2):Out l2 hi v:=fun g hg=>by have:=h g hg;omega
structure R1 (B0:Nat) (w:World) (b kS kR nn hi N:Nat) (n:Int) (vR vQ v:Value) (rs:List (Value×Int)) (xs:List Value) (rc:List Sp.Rec) (gn:Nat) (vi:Value) (wr:World):Prop where
 st:∃ (i lo:Nat) (vS vN:Value) (es:List (Value×Int)),vi=.int .i64 i∧i+gn=N∧BkA B0 wr b (kS+4 * i) kR (n+i) vS vN vR vQ es rs∧wr.ownsRow B0 94 5 v N xs∧RecsL wr nn hi lo (rc.drop i) (xs.drop (i * 5))∧(b < lo∧Out lo w.heap.size vS∧Out lo w.heap.size vN∧∀ x∈es,Out lo w.heap.size x.1)∧Bf B0 w wr∧(B0≤lo∧hi≤w.heap.size)
theorem R1.next {B0:Nat} {w wr w':World} {b kS kR nn hi N i lo gm l2 m:Nat} {n:Int} {vS vN vR vQ v vS' vN':Value} {es es' rs:List (Value×Int)} {xs ys:List Value} {rc:List Sp.Rec} {r:Sp.Rec} {a:Option Addr}
  (A:BkA B0 wr b (kS+4 * i) kR (n+i) vS vN vR vQ es rs) (O:wr.ownsRow B0 94 5 v N xs) (F:b < lo∧Out lo w.heap.size vS∧Out lo w.heap.size vN∧∀ x∈es,Out lo w.heap.size x.1) (G:Bf B0 w wr) (H:B0≤lo∧hi≤w.heap.size)
  (hi1:i+1+gm=N) (hx:xs.drop (i * 5)=recV r a m++ys) (hs:RecSp wr a m nn r.sp) (hl:lo≤l2∧∀ q o s,a=some ⟨q,o,s⟩→lo≤q∧q < l2) (hr:RecsL wr nn hi l2 (rc.drop (i+1)) ys) (hnn:nn≤1000)
  (A':BkA B0 w' b (kS+4 * i+4) kR (n+i+1) vS' vN' vR vQ es' rs) (u:Upd (b::(vS.ownBlock.toList++(vN.ownBlock.toList++(Value.slice a m m).ownBlock.toList))) wr w') (l1:Lies (b::(vS.ownBlock.toList++(vN.ownBlock.toList++(Value.slice a m m).ownBlock.toList))) wr vS') (l3:Lies (b::(vS.ownBlock.toList++(vN.ownBlock.toList++(Value.slice a m m).ownBlock.toList))) wr vN') (l4:∀ x∈es',x∈es∨Lies (b::(vS.ownBlock.toList++(vN.ownBlock.toList++(Value.slice a m m).ownBlock.toList))) wr x.1) :
  R1 B0 w b kS kR nn hi N n vR vQ v rs xs rc gm (.int .i64 ((i+1:Nat):Int)) w':=by
 have L:SpO wr B0 (.slice a m m) (spLen nn r.sp) (spFun r.sp):=hs.spo (fun q o s e=>by have:=(hl.2 q o s e).1;omega) hnn
 have hT:∀ k,k∈b::(vS.ownBlock.toList++(vN.ownBlock.toList++(Value.slice a m m).ownBlock.toList))→k < l2∨w.heap.size≤k:=fun k hk=>by
  have h1:=hl.1
  rcases (T_ty A L hk).2 with ⟨e,_⟩|⟨e,_⟩|⟨e,_⟩|⟨e,_⟩
  ·have:=F.1;omega
  ·have:=F.2.1 k e;omega
  ·have:=F.2.2.1 k e;omega
  ·left
   cases a with
   | none=>simp [Value.ownBlock] at e
   | some x=>
    obtain⟨q,o,s⟩:=x
    have h2:=(hl.2 q o s rfl).2
    simp only [Value.ownBlock] at e
    injection e with e
    omega
 have hlies:∀ y,Lies (b::(vS.ownBlock.toList++(vN.ownBlock.toList++(Value.slice a m m).ownBlock.toList))) wr y→Out l2 w.heap.size y:=fun y hy g hg=>by
  rcases hy g hg with e|e
  ·exact hT g e
  ·have:=G.size;omega
 have hle:=hr.le
 refine⟨i+1,l2,vS',vN',es',rfl,hi1,?_,?_,?_,⟨by have:=F.1;have:=hl.1;omega,hlies _ l1,hlies _ l3,fun x hx=>?_⟩,G.trans (aSpans_bf A L u),⟨by have:=hl.1;omega,H.2⟩⟩
 ·have e1:kS+4 * (i+1)=kS+4 * i+4:=by omega
  have e2:n+((i+1:Nat):Int)=n+i+1:=by omega
  rw [e1,e2];exact A'
 ·exact ownsRow_same O (fun k hk hlt=>u.block k hlt (T_not A L (own_tyP O hk) (by decide) (by decide) (Or.inl (by decide)) (by decide)))
 ·have e:xs.drop ((i+1) * 5)=ys:=by
   have:(i+1) * 5=i * 5+5:=by omega
   rw [this,← List.drop_drop,hx];rfl
  rw [e]
  exact hr.keepT u (fun k hk=>by have:=hT k hk;have:=H.2;omega)
 ·rcases l4 x hx with q|q
  ·exact (F.2.2.2 x q).more hl.1
  ·exact hlies _ q
theorem own_set {w:World} {B:Nat} {T:TypeId} {z g n cap j:Nat} {L:List Value} {x:Value} (h:w.ownsRow B T z (.slice (some ⟨g,0,none⟩) n cap) n L) (hj:j < L.length):(w.setCell ⟨g,j,none⟩ x).ownsRow B T z (.slice (some ⟨g,0,none⟩) n cap) n (L.set j x):=by
 obtain⟨h1,h2⟩:=h
 rcases h2 with ⟨q,_⟩|⟨g',cap',cur,q,e2,e3,e4,e5,e6,e7⟩
 ·cases q
 ·injection q with q1 q2 q3
  injection q1 with q1
  injection q1 with q1 _ _
  subst q1 q3
  refine⟨by simp [h1],Or.inr ⟨g,cap,cur.setIfInBounds j x,rfl,e2,heap_set e3 _ _,e4,e5,by simp [e6],?_⟩⟩
  rw [Array.toList_setIfInBounds,← e7,List.take_set]
structure RbAt (T:List Nat) (e0:List (Value×Int)) (B0:Nat) (wc w:World) (b k M:Nat) (n z:Int) (pS pN vR vQ:Value) (es:List (Value×Int)) (vl:Value) (m:Nat) (xs:List Value):Prop where
 cell:w.heap[b]?=some (.cells #[.int .i64 n,pS,pN,vR,vQ] 36 (0,0))
 s:w.ownsRow B0 92 1 vR k (es.map (·.1))
 n:w.ownsRow B0 3 1 vQ k (es.map fun x=>.int .i64 x.2)
 ent:∀ x∈es,REnt w x.1 x.2
 far:∀ x∈es,∀ g,x.1.ownBlock=some g→vl.ownBlock≠some g
 mark:w.heap[M]?=some (.cells #[.int .i64 z,.int .i64 0,.int .i64 0,.int .i64 0,.slice none 0 0] 94 (0,0))
 notM:∀ x∈es,x.1.ownBlock≠some M
 lM:vl.ownBlock≠some M
 l:w.ownsRow B0 94 5 vl m xs
 one:∀ x∈es,x.1.oneCell'=true
 up:Upd T wc w
 bb:B0≤b
 ts:Lies T wc vR
 tn:Lies T wc vQ
 tl:Lies T wc vl
 tb:b∈T∨wc.heap.size≤b
 hB:B0≤wc.heap.size
 new:∀ x∈es,x∈e0∨Lies T wc x.1
theorem RbAt.set1 {T:List Nat} {e0:List (Value×Int)} {B0:Nat} {wc w:World} {b k M g m cap j:Nat} {n z:Int} {pS pN vR vQ x:Value} {es:List (Value×Int)} {xs:List Value} (h:RbAt T e0 B0 wc w b k M n z pS pN vR vQ es (.slice (some ⟨g,0,none⟩) m cap) m xs) (hj:j < xs.length) :
  RbAt T e0 B0 wc (w.setCell ⟨g,j,none⟩ x) b k M n z pS pN vR vQ es (.slice (some ⟨g,0,none⟩) m cap) m (xs.set j x):=by
 have u:Upd [g] w (w.setCell ⟨g,j,none⟩ x):=Upd.setCell (Upd.refl _ _) (by simp) _
 obtain⟨ga,hga⟩:=own_tyC h.l (k:=g) rfl
 have nb:b≠g:=ty_neC h.cell hga (by decide)
 have nM:M≠g:=fun e=>h.lM (by rw [e];rfl)
 refine⟨(u.block b (lt_of_heap h.cell) (by simpa using nb)).trans h.cell,ownsRow_same h.s (fun q hq hlt=>u.block q hlt ?_),ownsRow_same h.n (fun q hq hlt=>u.block q hlt ?_),fun x hx=>(h.ent x hx).upd u (fun q hq=>?_),h.far,(u.block M (lt_of_heap h.mark) (by simpa using nM)).trans h.mark,h.notM,h.lM,own_set h.l hj,h.one,low_upd h.up u (fun q hq=>by have e:q=g:=(by simpa using hq);subst e;exact h.tl q rfl),h.bb,h.ts,h.tn,h.tl,h.tb,h.hB,h.new⟩
 ·obtain⟨a,ha⟩:=own_tyC h.s hq
  simpa using ty_neC ha hga (by decide)
 ·obtain⟨a,ha⟩:=own_tyC h.n hq
  simpa using ty_neC ha hga (by decide)
 ·simp;intro e;exact h.far x hx q hq (by rw [e];rfl)
theorem set_five {A R:List Value} {k:Nat} {x0 x1 x2 x3 x4 y0 y1 y2 y3 y4:Value} (hk:A.length=k):(((((A++x0::x1::x2::x3::x4::R).set k y0).set (k+1) y1).set (k+2) y2).set (k+3) y3).set (k+4) y4=A++[y0,y1,y2,y3,y4]++R:=by
 subst hk
 simp [List.set_append]
theorem drop_five {xs:List Value} {c m:Nat} (h:xs.length=m * 5) (hc:c < m):∃ x0 x1 x2 x3 x4,xs.drop (c * 5)=x0::x1::x2::x3::x4::xs.drop ((c+1) * 5):=by
 have e:xs.drop ((c+1) * 5)=(xs.drop (c * 5)).drop 5:=by rw [List.drop_drop];congr 1;omega
 have hl:5≤(xs.drop (c * 5)).length:=by rw [List.length_drop];omega
 rw [e]
 generalize xs.drop (c * 5)=ys at hl
 match ys,hl with
 | a::b::d::f::g::r,_=>exact⟨a,b,d,f,g,rfl⟩
theorem RbAt.put {T:List Nat} {e0:List (Value×Int)} {B0:Nat} {wc w:World} {b k M g m cap c:Nat} {n z:Int} {pS pN vR vQ:Value} {es:List (Value×Int)} {xs:List Value} (hx:xs.length=m * 5) (h:RbAt T e0 B0 wc w b k M n z pS pN vR vQ es (.slice (some ⟨g,0,none⟩) m cap) m (mks z c++xs.drop (c * 5))) (hc:c < m) :
  RbAt T e0 B0 wc (((((w.setCell ⟨g,c * 5,none⟩ (.int .i64 z)).setCell ⟨g,c * 5+1,none⟩ (.int .i64 0)).setCell ⟨g,c * 5+2,none⟩ (.int .i64 0)).setCell ⟨g,c * 5+3,none⟩ (.int .i64 0)).setCell ⟨g,c * 5+4,none⟩ (.slice none 0 0)) b k M n z pS pN vR vQ es (.slice (some ⟨g,0,none⟩) m cap) m (mks z (c+1)++xs.drop ((c+1) * 5)):=by
 obtain⟨x0,x1,x2,x3,x4,e⟩:=drop_five hx hc
 have hl:(mks z c++xs.drop (c * 5)).length=m * 5:=by rw [List.length_append,mks_length,List.length_drop];omega
 have h5:=((((h.set1 (j:=c * 5) (x:=.int .i64 z) (by omega)).set1 (j:=c * 5+1) (x:=.int .i64 0) (by simp only [List.length_set];omega)).set1 (j:=c * 5+2) (x:=.int .i64 0) (by simp only [List.length_set];omega)).set1 (j:=c * 5+3) (x:=.int .i64 0) (by simp only [List.length_set];omega)).set1 (j:=c * 5+4) (x:=.slice none 0 0) (by simp only [List.length_set];omega)
 rw [e,set_five (mks_length z c)] at h5
 exact h5
structure R2 (T:List Nat) (e0:List (Value×Int)) (B0:Nat) (wc:World) (b k M:Nat) (n z:Int) (pS pN vR vQ:Value) (es:List (Value×Int)) (vl:Value) (m:Nat) (xs:List Value) (gn:Nat) (vi:Value) (wr:World):Prop where
 st:∃ c:Nat,vi=.int .i64 c∧c+gn=m∧RbAt T e0 B0 wc wr b k M n z pS pN vR vQ es vl m (mks z c++xs.drop (c * 5))
structure R3 (T:List Nat) (e0:List (Value×Int)) (B0:Nat) (wc:World) (b k M m:Nat) (n z:Int) (pS pN:Value) (gn:Nat) (vl vk:Value) (wr:World):Prop where
 st:∃ (c ln:Nat) (vR vQ:Value) (es:List (Value×Int)),vk=.int .i64 c∧c+gn=4∧ln=m+c∧vLen vl=ln∧RcAt T e0 B0 wc wr b M n z vR vQ pS pN vR vQ (k+c) (k+c) (es.map (·.1)) (es.map fun x=>.int .i64 x.2) es vl ln∧(∀ x∈es,x.1.oneCell'=true)
theorem RbAt.core {T:List Nat} {e0:List (Value×Int)} {B0:Nat} {wc w:World} {b k M c m:Nat} {n z:Int} {pS pN vR vQ vl:Value} {es:List (Value×Int)} {xs:List Value} (h:RbAt T e0 B0 wc w b k M n z pS pN vR vQ es vl m (mks z c++xs.drop (c * 5))) (hx:xs.length=m * 5) (hc:c=m):RcAt T e0 B0 wc w b M n z vR vQ pS pN vR vQ k k (es.map (·.1)) (es.map fun x=>.int .i64 x.2) es vl m:=by
 refine⟨h.cell,h.s,h.n,h.ent,fun x hx g h1 h2=>absurd h2 (h.far x hx g h1),h.mark,h.notM,h.lM,?_,h.up,h.bb,h.ts,h.tn,h.tl,h.tb,h.hB,h.new⟩
 have:=h.l
 rw [hc,← hx,List.drop_length,List.append_nil] at this
 exact this
theorem R3.step {T:List Nat} {e0:List (Value×Int)} {B0:Nat} {b k M m d ln gm:Nat} {n z:Int} {pS pN vR vQ vl vl':Value} {es:List (Value×Int)} {wc w:World} (h:RcAt T e0 B0 wc w b M n z vR vQ pS pN vR vQ (k+d+1) (k+d+1) (es.map (·.1)++[vl]) ((es.map fun x=>.int .i64 x.2)++[.int .i64 z]) (es++[(vl,z)]) vl' (ln+1)) (h1:∀ x∈es,x.1.oneCell'=true) (h2:vl.oneCell'=true) (h3:ln=m+d) (h4:d+1+gm=4):R3 T e0 B0 wc b k M m n z pS pN gm vl' (.int .i64 ((d+1:Nat):Int)) w:=by
 obtain⟨a,c,e,_⟩:=row_form h.l
 refine⟨d+1,ln+1,vR,vQ,es++[(vl,z)],rfl,h4,by omega,by rw [e];rfl,?_,fun x hx=>?_⟩
 ·rw [List.map_append,List.map_append];exact h
 ·have:x∈es∨x=(vl,z):=by simpa using hx
  rcases this with q|rfl
  ·exact h1 x q
  ·exact h2
theorem lInfoRl:∃ i,Tryz.prog.info? 92=some i∧i.zero=some (.slice none 0 0)∧i.size=1∧i.bytes=24:=by
 have h:(Tryz.prog.info? 92).map (fun i=>(i.zero,i.size,i.bytes))=some (some (.slice none 0 0),1,24):=by kernel_rfl
 cases hi:Tryz.prog.info? 92 with
 | none=>rw [hi] at h;cases h
 | some i=>
  rw [hi] at h
  simp only [Option.map_some,Option.some.injEq,Prod.mk.injEq] at h
  exact⟨i,rfl,h.1,h.2.1,h.2.2⟩
def RecOut (B0 b kS kR N:Nat) (n:Int) (w:World) (e:Ending) (w':World):Prop:=∃ vS vN vR vQ es rs,e=.returned (.tuple #[])∧BkA B0 w' b (kS+4 * N) (kR+4) (n+N+1) vS vN vR vQ es rs∧Bf B0 w w'
theorem R3.out {T:List Nat} {B0:Nat} {w wc wr:World} {b kS kR M N:Nat} {n z:Int} {vS vN vR vQ vR' vQ' vl v:Value} {es rs rs1:List (Value×Int)} {ln:Nat} {xs:List Value} (hT:T=b::(vR.ownBlock.toList++(vQ.ownBlock.toList++v.ownBlock.toList))) (A:BkA B0 wc b (kS+4 * N) kR (n+N) vS vN vR vQ es rs) (O:wc.ownsRow B0 94 5 v N xs) (G:Bf B0 w wc)
  (h:RcAt T rs B0 wc wr b M (n+N+1) z vR' vQ' vS vN vR' vQ' (kR+4) (kR+4) (rs1.map (·.1)) (rs1.map fun x=>.int .i64 x.2) rs1 vl ln) (h1:∀ x∈rs1,x.1.oneCell'=true):RecOut B0 b kS kR N n w (.returned (.tuple #[])) wr:=by
 have hty:∀ k,k∈T→B0≤k∧((k=b∧TyIs wc k 36)∨TyIs wc k 92∨(vQ.ownBlock=some k∧TyIs wc k 3)∨TyIs wc k 94):=fun k hk=>by
  rw [hT] at hk
  rcases List.mem_cons.mp hk with e|e
  ·subst e;exact⟨A.S.bb,Or.inl ⟨rfl,⟨_,A.S.cell⟩⟩⟩
  rcases List.mem_append.mp e with e|e
  ·have e':vR.ownBlock=some k:=by simpa using e
   exact⟨(ownBlock_lt A.r e').2,Or.inr (Or.inl (own_tyP A.r e'))⟩
  rcases List.mem_append.mp e with e|e
  ·have e':vQ.ownBlock=some k:=by simpa using e
   exact⟨(ownBlock_lt A.q e').2,Or.inr (Or.inr (Or.inl ⟨e',own_tyP A.q e'⟩))⟩
  ·have e':v.ownBlock=some k:=by simpa using e
   exact⟨(ownBlock_lt O e').2,Or.inr (Or.inr (Or.inr (own_tyP O e')))⟩
 have hno:∀ k U,TyIs wc k U→U≠36→U≠92→(U≠3∨vQ.ownBlock≠some k)→U≠94→k∉T:=fun k U hU n1 n2 n3 n4 hk=>by
  rcases (hty k hk).2 with ⟨_,e⟩|e|⟨e',e⟩|e
  ·exact n1 (TyIs.uniq hU e)
  ·exact n2 (TyIs.uniq hU e)
  ·rcases n3 with n3|n3
   ·exact n3 (TyIs.uniq hU e)
   ·exact n3 e'
  ·exact n4 (TyIs.uniq hU e)
 refine⟨vS,vN,vR',vQ',es,rs1,rfl,⟨⟨h.cell,ownsRow_same A.S.s (fun k hk hlt=>h.up.block k hlt (hno k _ (own_tyP A.S.s hk) (by decide) (by decide) (Or.inl (by decide)) (by decide))),ownsRow_same A.S.n (fun k hk hlt=>h.up.block k hlt (hno k _ (own_tyP A.S.n hk) (by decide) (by decide) (Or.inr (A.nq k hk)) (by decide))),A.S.bb,fun x hx=>(A.S.ent x hx).upd h.up (fun g hg=>hno g _ ((A.S.ent x hx).tyI hg) (by decide) (by decide) (Or.inl (by decide)) (by decide)),A.S.one⟩,h.s,h.n,fun g hg hq=>?_,h.ent,h1⟩,G.trans (Bf.of h.up (fun k hk=>⟨(hty k hk).1,?_⟩))⟩
 ·rcases h.tn g hq with e|e
  ·exact hno g _ (own_tyP A.S.n hg) (by decide) (by decide) (Or.inr (A.nq g hg)) (by decide) e
  ·have:=(ownBlock_lt A.S.n hg).1;omega
 ·rcases (hty k hk).2 with ⟨_,e⟩|e|⟨_,e⟩|e<;>exact⟨_,e,rfl⟩
theorem RecsL.head {w:World} {n hi lo i N:Nat} {rc:List Sp.Rec} {xs:List Value} (h:RecsL w n hi lo (rc.drop i) (xs.drop (i * 5))) (hN:rc.length=N) (hlt:i < N):∃ r a m ys l2,xs.drop (i * 5)=recV r a m++ys∧RecSp w a m n r.sp∧(lo≤l2∧∀ q o s,a=some ⟨q,o,s⟩→lo≤q∧q < l2)∧RecsL w n hi l2 (rc.drop (i+1)) ys:=by
 rw [List.drop_eq_getElem_cons (by omega)] at h
 obtain⟨a,m,ys,l2,e,h1,h3,h2⟩:=h
 exact⟨_,a,m,ys,l2,e,h1,h3,h2⟩
theorem row_spans {w:World} {B N i m g cap:Nat} {xs ys:List Value} {r:Sp.Rec} {a:Option Addr} (O:w.ownsRow B 94 5 (.slice (some ⟨g,0,none⟩) N cap) N xs) (hx:xs.drop (i * 5)=recV r a m++ys):w.cell? ⟨g,i * 5+4,none⟩=some (.slice a m m):=by
 have e:xs[i * 5+4]?=some (.slice a m m):=by rw [← List.getElem?_drop,hx];rfl
 have:=O.cells (g:=g) rfl (i * 5+4) _ e
 have e0:(⟨g,0,none⟩:Addr).add (i * 5+4)=⟨g,i * 5+4,none⟩:=by simp [Addr.add]
 rw [e0] at this;exact this
theorem far_of {w:World} {lo l2 m:Nat} {es:List (Value×Int)} {a:Option Addr} {hi:Nat} (F:∀ x∈es,Out lo w.heap.size x.1) (hl:lo≤l2∧∀ q o s,a=some ⟨q,o,s⟩→lo≤q∧q < l2) (h2:l2≤hi) (hh:hi≤w.heap.size):∀ x∈es,∀ g,(Value.slice a m m).ownBlock=some g→x.1.ownBlock≠some g:=fun x hx g hg he=>by
 have h1:=F x hx g he
 cases a with
 | none=>simp [Value.ownBlock] at hg
 | some y=>
  obtain⟨q,o,s⟩:=y
  have h3:=hl.2 q o s rfl
  simp only [Value.ownBlock] at hg
  injection hg with hg
  omega
theorem RbAt.start {B0:Nat} {w:World} {b kS kR N:Nat} {m z:Int} {vS vN vR vQ v:Value} {es rs:List (Value×Int)} {xs:List Value} {T:List Nat} (A:BkA B0 w b kS kR m vS vN vR vQ es rs) (O:w.ownsRow B0 94 5 v N xs) (hfr:∀ x∈rs,∀ g,x.1.ownBlock=some g→v.ownBlock≠some g) (hT:T=b::(vR.ownBlock.toList++(vQ.ownBlock.toList++v.ownBlock.toList))) (hB:B0≤w.heap.size) :
  RbAt T rs B0 w ((w.setCell ⟨b,0,none⟩ (.int .i64 (m+1))).alloc (.cells #[.int .i64 z,.int .i64 0,.int .i64 0,.int .i64 0,.slice none 0 0] 94)) b kR w.heap.size (m+1) z vS vN vR vQ rs v N xs:=by
 have u:Upd [b] w ((w.setCell ⟨b,0,none⟩ (.int .i64 (m+1))).alloc (.cells #[.int .i64 z,.int .i64 0,.int .i64 0,.int .i64 0,.slice none 0 0] 94)):=Upd.alloc (Upd.setCell (Upd.refl _ _) (by simp) _) _
 have hsz:(w.setCell ⟨b,0,none⟩ (.int .i64 (m+1))).heap.size=w.heap.size:=by simp [World.setCell]
 have hb0:=lt_of_heap A.S.cell
 have hbT:b∈T:=by rw [hT];simp
 have hty:∀ k U,TyIs w k U→U≠36→k∉[b]:=fun k U hU hn hm=>by
  have e:k=b:=by simpa using hm
  subst e;exact hn (TyIs.uniq hU ⟨_,A.S.cell⟩)
 have hM:∀ y:Value,(∀ g,y.ownBlock=some g→g < w.heap.size)→y.ownBlock≠some w.heap.size:=fun y hy e=>by have:=hy _ e;omega
 refine⟨(Below.heap_alloc _ _ _ (by rw [hsz];omega)).trans (heap_set A.S.cell 0 _),ownsRow_same A.r (fun q hq hlt=>u.block q hlt (hty q _ (own_tyP A.r hq) (by decide))),ownsRow_same A.q (fun q hq hlt=>u.block q hlt (hty q _ (own_tyP A.q hq) (by decide))),fun x hx=>(A.ent x hx).upd u (fun g hg=>hty g _ ((A.ent x hx).tyI hg) (by decide)),hfr,heap_new hsz.symm,fun x hx=>hM _ (fun g hg=>((A.ent x hx).tyI hg).lt),hM _ (fun g hg=>(ownBlock_lt O hg).1),ownsRow_same O (fun q hq hlt=>u.block q hlt (hty q _ (own_tyP O hq) (by decide))),A.one,u.mono (fun q hq=>by have e:q=b:=(by simpa using hq);subst e;exact hbT),A.S.bb,fun g hg=>Or.inl (by rw [hT,hg];simp),fun g hg=>Or.inl (by rw [hT,hg];simp),fun g hg=>Or.inl (by rw [hT,hg];simp),Or.inl hbT,hB,fun x hx=>Or.inl hx⟩
set_option maxRecDepth 8000 in
set_option maxHeartbeats 3200000 in
theorem bRecords_any (B0 b kS kR nn hi lo N:Nat) (n:Int) (vS vN vR vQ v:Value) (es rs:List (Value×Int)) (xs:List Value) (rc:List Sp.Rec) (w:World) (A:BkA B0 w b kS kR n vS vN vR vQ es rs) (O:w.ownsRow B0 94 5 v N xs) (R:RecsL w nn hi lo rc xs) (hN:rc.length=N) (F:b < lo∧Out lo w.heap.size vS∧Out lo w.heap.size vN∧∀ x∈es,Out lo w.heap.size x.1) (hfr:∀ x∈rs,∀ g,x.1.ownBlock=some g→v.ownBlock≠some g) (H:B0≤lo∧hi≤w.heap.size) (hB0:B0≤w.heap.size) (hnn:nn≤20) (hNb:N≤2200000) (hk:kS+4 * N≤60000000) (hkR:kR≤60000000) (hn:0≤n∧n+N≤50000000):Calls Tryz.prog 40 #[.pointer (some ⟨b,0,none⟩),v] w (RecOut B0 b kS kR N n w):=by
 have HA:Hid (BkA B0 w b kS kR n vS vN vR vQ es rs):=A
 have HO:Hid (w.ownsRow B0 94 5 v N xs):=O
 have HR:Hid (RecsL w nn hi lo rc xs):=R
 have HN:Hid (rc.length=N):=hN
 have HF:Hid (b < lo∧Out lo w.heap.size vS∧Out lo w.heap.size vN∧∀ x∈es,Out lo w.heap.size x.1):=F
 have HFR:Hid (∀ x∈rs,∀ g,x.1.ownBlock=some g→v.ownBlock≠some g):=hfr
 have HH:Hid (B0≤lo∧hi≤w.heap.size):=H
 have HB0:Hid (B0≤w.heap.size):=hB0
 obtain⟨ad,cp,hv,hcp⟩:=row_form O
 have HV:Hid (v=.slice ad N cp):=hv
 subst hv
 clear A O R hN F hfr H hB0 HV
 go_enter Tryz.func40,Tryz.ntmps40
 go_wp2_with fail
 go_loopg [4] N (fun gn vi wr=>R1 B0 w b kS kR nn hi N n vR vQ (.slice ad N cp) rs xs rc gn vi wr)
 case atStart=>exact⟨0,lo,vS,vN,es,rfl,by omega,by have:=HA.out;simpa using this,HO.out,by have:=HR.out;simpa using this,HF.out,Bf.refl _ _,HH.out⟩
 case round=>
  obtain⟨i,l1,xS,xN,es1,hvi,hig,hA,hO,hR,hF,hG,hH⟩:=hrel.st
  subst hvi
  have GA:Hid (BkA B0 wr b (kS+4 * i) kR (n+i) xS xN vR vQ es1 rs):=hA
  have GO:Hid (wr.ownsRow B0 94 5 (.slice ad N cp) N xs):=hO
  have GR:Hid (RecsL wr nn hi l1 (rc.drop i) (xs.drop (i * 5))):=hR
  have GF:Hid (b < l1∧Out l1 w.heap.size xS∧Out l1 w.heap.size xN∧∀ x∈es1,Out l1 w.heap.size x.1):=hF
  have GG:Hid (Bf B0 w wr):=hG
  have GH:Hid (B0≤l1∧hi≤w.heap.size):=hH
  clear hA hO hR hF hG hH hrel
  by_cases hlt:i < N
  ·have hlt':(i:Int) < N:=by omega
   obtain⟨gm,hgm⟩:∃ q,gk=q+1:=⟨gk - 1,by omega⟩
   obtain⟨g,hg⟩:∃ g,ad=some ⟨g,0,none⟩:=by
    rcases GO.out.2 with ⟨q,q'⟩|⟨g,cap,cur,q,_⟩
    ·omega
    ·injection q with q1;exact⟨g,q1⟩
   subst hg
   obtain⟨r,a,m,ys,l2,hx,hs,hl,hrr⟩:=GR.out.head HN.out hlt
   have c4:=row_spans GO.out hx
   have HX:Hid (xs.drop (i * 5)=recV r a m++ys):=hx
   have HS:Hid (RecSp wr a m nn r.sp):=hs
   have HL:Hid (l1≤l2∧∀ q o s,a=some ⟨q,o,s⟩→l1≤q∧q < l2):=hl
   have HRR:Hid (RecsL wr nn hi l2 (rc.drop (i+1)) ys):=hrr
   have hml:spLen nn r.sp≤20:=Nat.le_trans (spLen_le r.sp) hnn
   clear hx hs hl hrr
   go_wp2_with fail
   refine (aSpans_any B0 b (kS+4 * i) kR (n+i) xS xN vR vQ es1 rs _ (.slice a m m) (spLen nn r.sp) (spFun r.sp) GA.out (HS.out.spo (fun q o s e=>by have:=(HL.out.2 q o s e).1;have:=GH.out.1;omega) (by omega)) (far_of GF.out.2.2.2 HL.out HRR.out.le GH.out.2) (Nat.le_trans HB0.out GG.out.size) hml (by omega) ⟨by omega,by omega⟩).mono ?_
   rintro e w2 ⟨yS,yN,es2,rfl,A2,u2,t1,t2,t3⟩
   have RL:Hid (R1 B0 w b kS kR nn hi N n vR vQ (.slice (some ⟨g,0,none⟩) N cp) rs xs rc gm (.int .i64 ((i+1:Nat):Int)) w2):=R1.next GA.out GO.out GF.out GG.out GH.out (by omega) HX.out HS.out HL.out HRR.out (by omega) A2 u2 t1 t2 t3
   clear A2 u2 t1 t2 t3
   go_wp2_with fail
   go_roundg gm
   case measure=>omega
   case rel=>exact RL.out
  ·have hlt':¬ (i:Int) < N:=by omega
   have hiN:i=N:=by omega
   subst hiN
   have b0:wr.cell? ⟨b,0,none⟩=some (.int .i64 (n+i)):=by rw [World.cell?,GA.out.S.cell];rfl
   have fz:∀ o,wr.frozen? ⟨b,o,none⟩=false:=fun o=>by rw [World.frozen?,GA.out.S.cell];rfl
   go_wp2_with fail
   obtain⟨z,hz⟩:∃ z,z=-10 - (n+i+1):=⟨_,rfl⟩
   obtain⟨T,hT⟩:∃ T,T=b::(vR.ownBlock.toList++(vQ.ownBlock.toList++(Value.slice ad i cp).ownBlock.toList)):=⟨_,rfl⟩
   have HT:Hid (T=b::(vR.ownBlock.toList++(vQ.ownBlock.toList++(Value.slice ad i cp).ownBlock.toList))):=hT
   have HXL:Hid (xs.length=i * 5):=GO.out.1
   have HST:Hid (R2 T rs B0 wr b kR wr.heap.size (n+i+1) z xS xN vR vQ rs (.slice ad i cp) i xs i (.int .i64 0) ((wr.setCell ⟨b,0,none⟩ (.int .i64 (n+i+1))).alloc (.cells #[.int .i64 z,.int .i64 0,.int .i64 0,.int .i64 0,.slice none 0 0] 94))):=⟨0,rfl,by omega,by have:=RbAt.start (z:=z) GA.out GO.out HFR.out hT (Nat.le_trans HB0.out GG.out.size);simpa [mks] using this⟩
   have HZ:Hid (z=-10 - (n+i+1)):=hz
   rw [← hz]
   clear hz hT b0 fz
   generalize hwr0:wr=wr0 at *
   clear hwr0
   generalize hM:wr0.heap.size=M at *
   go_loopg [6] i (fun gn vi wr=>R2 T rs B0 wr0 b kR M (n+i+1) z xS xN vR vQ rs (.slice ad i cp) i xs gn vi wr)
   case atStart=>exact HST.out
   case round=>
    obtain⟨c,hvi,hcg,hB⟩:=hrel.st
    subst hvi
    have m0:wr.cell? ⟨M,0,none⟩=some (.int .i64 z):=by rw [World.cell?,hB.mark];rfl
    have m1:wr.cell? ⟨M,1,none⟩=some (.int .i64 0):=by rw [World.cell?,hB.mark];rfl
    have m2:wr.cell? ⟨M,2,none⟩=some (.int .i64 0):=by rw [World.cell?,hB.mark];rfl
    have m3:wr.cell? ⟨M,3,none⟩=some (.int .i64 0):=by rw [World.cell?,hB.mark];rfl
    have m4:wr.cell? ⟨M,4,none⟩=some (.slice none 0 0):=by rw [World.cell?,hB.mark];rfl
    by_cases hlt2:c < i
    ·obtain⟨gm,hgm⟩:∃ q,gk=q+1:=⟨gk - 1,by omega⟩
     have hlt2':(c:Int) < i:=by omega
     obtain⟨g,hg⟩:∃ g,ad=some ⟨g,0,none⟩:=by
      rcases hB.l.2 with ⟨q,q'⟩|⟨g,cap,cur,q,_⟩
      ·omega
      ·injection q with q1;exact⟨g,q1⟩
     subst hg
     have e0:(∀ k,k < 5→(wr.cell? ⟨g,c * 5+k,none⟩).isSome=true)∧(∀ o,wr.frozen? ⟨g,o,none⟩=false):=by
      rcases hB.l.2 with ⟨q,q'⟩|⟨g',cap',cur,q,h1,h2,h3,h4,h5,h6⟩
      ·cases q
      ·injection q with q1 q2 q3
       injection q1 with q1
       injection q1 with q1 _ _
       subst q1
       refine⟨fun k hk=>?_,fun o=>by rw [World.frozen?,h2];rfl⟩
       rw [World.cell?,h2];show (cur[c * 5+k]?).isSome=true;rw [Array.getElem?_eq_getElem (by omega)];rfl
     obtain⟨a0,ha0⟩:=Option.isSome_iff_exists.mp (e0.1 0 (by omega))
     obtain⟨a1,ha1⟩:=Option.isSome_iff_exists.mp (e0.1 1 (by omega))
     obtain⟨a2,ha2⟩:=Option.isSome_iff_exists.mp (e0.1 2 (by omega))
     obtain⟨a3,ha3⟩:=Option.isSome_iff_exists.mp (e0.1 3 (by omega))
     obtain⟨a4,ha4⟩:=Option.isSome_iff_exists.mp (e0.1 4 (by omega))
     rw [Nat.add_zero] at ha0
     have fzg:=e0.2
     have RL:Hid (R2 T rs B0 wr0 b kR M (n+i+1) z xS xN vR vQ rs (.slice (some ⟨g,0,none⟩) i cp) i xs gm (.int .i64 ((c+1:Nat):Int)) (((((wr.setCell ⟨g,c * 5,none⟩ (.int .i64 z)).setCell ⟨g,c * 5+1,none⟩ (.int .i64 0)).setCell ⟨g,c * 5+2,none⟩ (.int .i64 0)).setCell ⟨g,c * 5+3,none⟩ (.int .i64 0)).setCell ⟨g,c * 5+4,none⟩ (.slice none 0 0))):=⟨c+1,rfl,by omega,hB.put HXL.out hlt2⟩
     clear hB e0 hrel
     go_wp2_with fail
     go_roundg gm
     case measure=>omega
     case rel=>exact RL.out
    ·have hlt2':¬ (c:Int) < i:=by omega
     have ST2:Hid (R3 T rs B0 wr0 b kR M i (n+i+1) z xS xN 4 (.slice ad i cp) (.int .i64 0) wr):=⟨0,i,vR,vQ,rs,rfl,by omega,by omega,rfl,hB.core HXL.out (by omega),hB.one⟩
     obtain⟨i1,hi1,hi2,hi3,hi4⟩:=lInfoRl
     obtain⟨i2,hj1,hj2,hj3,hj4⟩:=lInfoInt
     obtain⟨i3,hl1,hl2,hl3,hl4⟩:=pInfoRec
     have HI1:Hid (Tryz.prog.info? 92=some i1∧i1.zero=some (.slice none 0 0)∧i1.size=1∧i1.bytes=24):=⟨hi1,hi2,hi3,hi4⟩
     have HI2:Hid (Tryz.prog.info? 3=some i2∧i2.zero=some (.int .i64 0)∧i2.size=1∧i2.bytes=8):=⟨hj1,hj2,hj3,hj4⟩
     have HI3:Hid (Tryz.prog.info? 94=some i3∧i3.zero=some (.agg #[.int .i64 0,.int .i64 0,.int .i64 0,.int .i64 0,.slice none 0 0])∧i3.size=5∧i3.bytes=56):=⟨hl1,hl2,hl3,hl4⟩
     clear hB hrel hi1 hi2 hi3 hi4 hj1 hj2 hj3 hj4 hl1 hl2 hl3 hl4 m0 m1 m2 m3 m4 HST HFR HR HF HH HA HO GR GF GH
     go_wp2_with fail
     go_loopg [1,7] 4 (fun gn vl vk wr=>R3 T rs B0 wr0 b kR M i (n+i+1) z xS xN gn vl vk wr)
     case atStart=>exact ST2.out
     case round=>
      obtain⟨d,ln,yR,yQ,es3,hvk,hdg,hln,hvl,hB,hone⟩:=hrel.st
      subst hvk
      by_cases hd:d < 4
      ·obtain⟨gm,hgm⟩:∃ q,gk=q+1:=⟨gk - 1,by omega⟩
       have hd':(d:Int) < 4:=by omega
       have b1:wr.cell? ⟨b,3,none⟩=some yR:=by rw [World.cell?,hB.cell];rfl
       have HB1:Hid (RcAt T rs B0 wr0 (wr.alloc (.cells #[u1] 92)) b M (n+i+1) z yR yQ xS xN yR yQ (kR+d) (kR+d) (es3.map (·.1)) (es3.map fun x=>.int .i64 x.2) es3 u1 ln):=hB.upd (Upd.alloc (Upd.refl _ _) _)
       have HONE:Hid (∀ x∈es3,x.1.oneCell'=true):=hone
       have HVL:Hid (vLen u1=ln):=hvl
       obtain⟨va,vc,hva,hvc⟩:=row_form hB.l
       subst hva
       have HLN:Hid (ln=i+d):=hln
       have hlb:ln≤2200004:=by omega
       clear hB hone hvl hrel hln
       go_wp2_with (first|(at_builtin;refine wpList_append_own_at _ rfl _ _ 34 rfl B0 92 i1 (.slice none 0 0) 1 24 Tryz.underlying34 HI1.out.1 HI1.out.2.1 HI1.out.2.2.1 HI1.out.2.2.2 rfl (by decide) yR (kR+d) _ rfl HB1.out.s ⟨wr.heap.size,0,none⟩ 1 1 [.slice va ln vc] rfl rfl ?c1 ?c2 ?c3 ?c4 ?c5 ?_)|fail)
       case c1=>exact one_cell _ _ _
       case c2=>intro u hu;simp at hu;subst hu;rfl
       case c3=>unfold maxLen;omega
       case c4=>omega
       case c5=>exact Nat.le_trans HB1.out.hB HB1.out.up.size
       intro vS' w2 hown2 hgrow2 hnil2 hloc2
       obtain⟨sa,sc,hsv,_⟩:=row_form hown2
       subst hsv
       have B2:=HB1.out.moreS hgrow2 hown2 (by rw [show (wr.alloc (.cells #[.slice va ln vc] 92)).heap.size=wr.heap.size+1 from (by show (wr.heap.push _).size=_;simp)];exact hloc2)
       have HB2:Hid (RcAt T rs B0 wr0 w2 b M (n+i+1) z yR yQ xS xN (.slice sa (kR+d+1) sc) yQ (kR+d+1) (kR+d) (es3.map (·.1)++[.slice va ln vc]) (es3.map fun x=>.int .i64 x.2) es3 (.slice va ln vc) ln):=B2
       have f2:w2.frozen? ⟨b,3,none⟩=false:=by rw [World.frozen?,B2.cell];rfl
       have b2:w2.cell? ⟨b,3,none⟩=some yR:=by rw [World.cell?,B2.cell];rfl
       have HB3:Hid (RcAt T rs B0 wr0 (w2.setCell ⟨b,3,none⟩ (.slice sa (kR+d+1) sc)) b M (n+i+1) z (.slice sa (kR+d+1) sc) yQ xS xN (.slice sa (kR+d+1) sc) yQ (kR+d+1) (kR+d) (es3.map (·.1)++[.slice va ln vc]) (es3.map fun x=>.int .i64 x.2) es3 (.slice va ln vc) ln):=B2.put rfl
       clear hown2 hgrow2 hnil2 hloc2 B2 b1
       go_wp2_with fail
       revert HB3
       generalize w2.setCell ⟨b,3,none⟩ (.slice sa (kR+d+1) sc)=w3
       intro HB3
       have b0:w3.cell? ⟨b,0,none⟩=some (.int .i64 (n+i+1)):=by rw [World.cell?,HB3.out.cell];rfl
       have b2':w3.cell? ⟨b,4,none⟩=some yQ:=by rw [World.cell?,HB3.out.cell];rfl
       have f3:∀ o,w3.frozen? ⟨b,o,none⟩=false:=fun o=>by rw [World.frozen?,HB3.out.cell];rfl
       have hzz:-10 - (n+i+1)=z:=HZ.out.symm
       have hzb:-60000011≤z∧z≤-11:=by omega
       have hwr:IntKind.i64.wrap z=z:=by rw [IntKind.wrap_i64];omega
       have b2'':(w3.alloc (.cells #[.int .i64 z] 3)).cell? ⟨b,4,none⟩=some yQ:=(cell_eq (Below.heap_alloc _ _ _ (lt_of_heap HB3.out.cell)) _).trans b2'
       have H1C:Hid (∀ j u,([.int .i64 z]:List Value)[j]?=some u→(w3.alloc (.cells #[.int .i64 z] 3)).drew.cell? ((⟨w3.heap.size,0,none⟩:Addr).add j)=some u):=fun j u h=>one_cell w3 _ _ j u h
       have HN3:Hid (RcAt T rs B0 wr0 (w3.alloc (.cells #[.int .i64 z] 3)).drew b M (n+i+1) z (.slice sa (kR+d+1) sc) yQ xS xN (.slice sa (kR+d+1) sc) yQ (kR+d+1) (kR+d) (es3.map (·.1)++[.slice va ln vc]) (es3.map fun x=>.int .i64 x.2) es3 (.slice va ln vc) ln):=HB3.out.upd (Upd.drew (Upd.alloc (Upd.refl _ _) _))
       go_region_law (refine step_append_own rfl _ _ 33 rfl B0 3 i2 (.int .i64 0) 1 8 Tryz.underlying33 HI2.out.1 HI2.out.2.1 HI2.out.2.2.1 HI2.out.2.2.2 (by decide) (by decide) yQ (kR+d) (es3.map fun x=>.int .i64 x.2) (by simp [Act.eval,Act.put]) (by exact HN3.out.n) ⟨w3.heap.size,0,none⟩ 1 1 [.int .i64 z] (by simp [Act.eval,Act.put]) rfl (by exact H1C.out) (by intro u hu;simp at hu;subst hu;rfl) (by unfold maxLen;omega) (by omega) (by exact Nat.le_trans HN3.out.hB HN3.out.up.size) ?_;intro vN' w5 hown5 hgrow5 hnil5 hloc5;obtain⟨na,nc,hnv,_⟩:=row_form hown5;subst hnv;have B5:=HN3.out.moreN hgrow5 hown5 hloc5;have f5:w5.frozen? ⟨b,4,none⟩=false:=(by rw [World.frozen?,B5.cell];rfl);have g5:w5.cell? ⟨b,4,none⟩=some yQ:=(by rw [World.cell?,B5.cell];rfl);have HB6:Hid (RcAt T rs B0 wr0 (w5.setCell ⟨b,4,none⟩ (.slice na (kR+d+1) nc)) b M (n+i+1) z (.slice sa (kR+d+1) sc) (.slice na (kR+d+1) nc) xS xN (.slice sa (kR+d+1) sc) (.slice na (kR+d+1) nc) (kR+d+1) (kR+d+1) (es3.map (·.1)++[.slice va ln vc]) ((es3.map fun x=>.int .i64 x.2)++[.int .i64 z]) es3 (.slice va ln vc) ln):=B5.put rfl;clear hown5 hgrow5 hnil5 hloc5 B5)
       all_goals
        revert HB6
        generalize w5.setCell ⟨b,4,none⟩ (.slice na (kR+d+1) nc)=w6
        intro HB6
        have m0:w6.cell? ⟨M,0,none⟩=some (.int .i64 z):=by rw [World.cell?,HB6.out.mark];rfl
        have m1:w6.cell? ⟨M,1,none⟩=some (.int .i64 0):=by rw [World.cell?,HB6.out.mark];rfl
        have m2:w6.cell? ⟨M,2,none⟩=some (.int .i64 0):=by rw [World.cell?,HB6.out.mark];rfl
        have m3:w6.cell? ⟨M,3,none⟩=some (.int .i64 0):=by rw [World.cell?,HB6.out.mark];rfl
        have m4:w6.cell? ⟨M,4,none⟩=some (.slice none 0 0):=by rw [World.cell?,HB6.out.mark];rfl
        have HB7:Hid (RcAt T rs B0 wr0 (w6.alloc (.cells #[.int .i64 z,.int .i64 0,.int .i64 0,.int .i64 0,.slice none 0 0] 94)) b M (n+i+1) z (.slice sa (kR+d+1) sc) (.slice na (kR+d+1) nc) xS xN (.slice sa (kR+d+1) sc) (.slice na (kR+d+1) nc) (kR+d+1) (kR+d+1) (es3.map (·.1)++[.slice va ln vc]) ((es3.map fun x=>.int .i64 x.2)++[.int .i64 z]) (es3++[(.slice va ln vc,z)]) (.slice va ln vc) ln):=(HB6.out.upd (Upd.alloc (Upd.refl _ _) _)).entry rfl
        go_wp2_with (first|(at_builtin;refine wpList_append_more _ rfl _ _ 92 rfl B0 94 i3 (.agg #[.int .i64 0,.int .i64 0,.int .i64 0,.int .i64 0,.slice none 0 0]) 5 56 Tryz.underlying92 HI3.out.1 HI3.out.2.1 HI3.out.2.2.1 HI3.out.2.2.2 rfl (by decide) (.slice va ln vc) ln _ rfl HB7.out.l ⟨w6.heap.size,0,none⟩ 1 1 (markV z) rfl rfl ?c1 ?c2 ?c3 ?c4 ?c5 ?_)|fail)
        case c1=>exact cells_five _ _ _ _ _ _
        case c2=>intro u hu;simp [markV] at hu;rcases hu with rfl|rfl|rfl|rfl|rfl<;>rfl
        case c3=>unfold maxLen;omega
        case c4=>omega
        case c5=>exact Nat.le_trans HB7.out.hB HB7.out.up.size
        intro vL w8 hown8 hgrow8 hloc8
        have hz6:(w6.alloc (.cells #[.int .i64 z,.int .i64 0,.int .i64 0,.int .i64 0,.slice none 0 0] 94)).heap.size=w6.heap.size+1:=by show (w6.heap.push _).size=_;simp
        have RL:Hid (R3 T rs B0 wr0 b kR M i (n+i+1) z xS xN gm vL (.int .i64 ((d+1:Nat):Int)) w8):=R3.step (HB7.out.moreL hgrow8 hown8 (by rw [hz6];exact hloc8)) HONE.out rfl HLN.out (by omega)
        clear hown8 hgrow8 hloc8
        go_wp2_with fail
        go_roundg gm
        case measure=>omega
        case rel=>exact RL.out
      ·have hd':¬ (d:Int) < 4:=by omega
       have HOUT:Hid (RecOut B0 b kS kR i n w (.returned (.tuple #[])) wr):=by
        have e:d=4:=by omega
        subst e
        exact R3.out HT.out GA.out GO.out GG.out hB hone
       go_wp2_with fail
       go_end0
       exact HOUT.out
end Go.Proofs.YtcpfpnjkfahjcaaGreat
