import Derived.Test.YtcpfpnjkfahjcaaGreatH10
import Derived.LaidEql
import Derived.Maps.OwnOps
set_option linter.unusedSimpArgs false
set_option linter.unusedVariables false
namespace Go.Proofs.YtcpfpnjkfahjcaaGreat
open Go.RowKit
structure Spot where
 n:Nat
 d:Nat
 f:Nat
def spotV (x:Spot):Value:=.agg #[.pointer (some ⟨x.n,0,none⟩),.int .i64 x.d,.int .i64 x.f]
def spotEq (x y:Spot):Bool:=x.n == y.n && x.d == y.d && x.f == y.f
theorem spotEq_is {x y:Spot} (h:spotEq x y=true):x=y:=by
 obtain⟨a,b,c⟩:=x;obtain⟨a',b',c'⟩:=y
 simp [spotEq] at h;obtain⟨⟨rfl,rfl⟩,rfl⟩:=h;rfl
def IsNd (w:World) (n:Nat):Prop:=∃ c t,w.heap[n]?=some (.cells c t (0,0))
theorem TnAt.isNd {w:World} {p:Nat} {a:TN} (h:TnAt w p a):IsNd w p:=⟨_,_,h⟩
theorem eqPtr (d x y:Nat) (w:World) (hx:IsNd w x) (hy:IsNd w y) :
  (Op.equalIn (d+1) 67 (.pointer (some ⟨x,0,none⟩)) (.pointer (some ⟨y,0,none⟩))).run Tryz.prog w=.ok (x == y) w:=by
 obtain⟨c,t,hx⟩:=hx
 obtain⟨c',t',hy⟩:=hy
 have u1:=Tryz.underlying67
 obtain⟨k,hk,h0⟩:∃ k,(∀ w,(sizeOf 120).run Tryz.prog w=.ok k w)∧k≠0:=⟨_,Tryz.sizeOf120,by decide⟩
 by_cases h:x=y
 ·subst h
  simp [Op.equalIn,run_underlying u1,hk,h0,run_sameAddr_same]
 ·have hne:(⟨x,0,none⟩:Addr)≠⟨y,0,none⟩:=fun q=>h (by cases q;rfl)
  simp [Op.equalIn,run_underlying u1,hk,h0,run_sameAddr_other w hne hx hy,h]
theorem eqSpot (x y:Spot) (w:World) (hx:IsNd w x.n) (hy:IsNd w y.n):(Op.equal 140 (spotV x) (spotV y)).run Tryz.prog w=.ok (spotEq x y) w:=by
 have hS:Tryz.prog.underlying 140=some (.struct (Tryz.prog.fieldsOf 140)):=by kernel_rfl
 have hp:Tryz.prog.stoodInHeld 140=false:=by kernel_rfl
 have u1:=Tryz.underlying67
 have u2:=Tryz.underlying3
 have e:(Op.equalIn 9999 67 (.pointer (some ⟨x.n,0,none⟩)) (.pointer (some ⟨y.n,0,none⟩))).run Tryz.prog w=.ok (x.n == y.n) w:=eqPtr 9998 x.n y.n w hx hy
 unfold spotV Op.equal
 rw [show Op.maxDepth=9999+1 from rfl,run_equalIn_agg w 9999 140 _ _ hS hp]
 simp only [Program.fieldsOf,Tryz.underlying140]
 go_simp
 simp only [Result.andThen,spotEq,Int.natCast_inj]
 by_cases h1:x.n=y.n<;>by_cases h2:x.d=y.d<;>by_cases h3:x.f=y.f<;>simp [h1,h2,h3]
theorem checkSpot (b:Bool) (x:Spot) (w:World):(Instr.checkKey b 10000 140 (spotV x)).run Tryz.prog w=.ok () w:=by
 kernel_rfl
def Ext (w w':World):Prop:=∀ k,k < w.heap.size→w'.heap[k]?=w.heap[k]?
theorem Ext.refl (w:World):Ext w w:=fun _ _=>rfl
theorem Ext.alloc {w w':World} (h:Ext w w') (hs:w.heap.size≤w'.heap.size) (o:Obj):Ext w (w'.alloc o):=fun k hk=>(Below.heap_alloc _ _ _ (by omega)).trans (h k hk)
theorem Ext.drew {w w':World} (h:Ext w w'):Ext w w'.drew:=h
theorem alloc_size (w:World) (o:Obj):(w.alloc o).heap.size=w.heap.size+1:=by simp
theorem Ext.isNd {w w':World} (h:Ext w w') {n:Nat} (k:IsNd w n):IsNd w' n:=by
 obtain⟨c,t,k⟩:=k;exact⟨c,t,(h n (lt_of_heap k)).trans k⟩
def EntAt (w:World) (R:Spot→(Nat→Bool)→Prop) (e:MapEntry):Prop:=∃ y f,e.key=spotV y∧e.val=plV f∧IsNd w y.n∧R y f
theorem findAsking_spot {R:Spot→(Nat→Bool)→Prop} (x:Spot) (w:World) (hx:IsNd w x.n):∀ (es:List MapEntry) (i:Nat),(∀ e∈es,EntAt w R e)→
  ∃ r,(∀ w',Ext w w'→(Instr.findAsking 140 (spotV x) es i).run Tryz.prog w'=.ok r w')∧∀ j v,r=some (j,v)→i≤j∧∃ e,es[j - i]?=some e∧e.key=spotV x∧∃ f,v=plV f∧R x f
 | [],i,_=>⟨none,by intro w' _;simp [Instr.findAsking],by intro j v h;cases h⟩
 | e::es,i,h=>by
  obtain⟨y,f,hk,hv,hy,hR⟩:=h e (by simp)
  cases hb:spotEq x y with
  | true=>
   have:x=y:=spotEq_is hb
   subst this
   refine⟨some (i,e.val),?_,?_⟩
   ·intro w' hw
    have q:=eqSpot x x w' (hw.isNd hx) (hw.isNd hy)
    simp [Instr.findAsking,hk,q,hb]
   ·intro j v h';cases h'
    exact⟨Nat.le_refl _,e,by simp,hk,f,hv,hR⟩
  | false=>
   obtain⟨r,h1,h2⟩:=findAsking_spot x w hx es (i+1) (fun e' he'=>h e' (by simp [he']))
   refine⟨r,?_,?_⟩
   ·intro w' hw
    have q:=eqSpot x y w' (hw.isNd hx) (hw.isNd hy)
    simp [Instr.findAsking,hk,q,hb,h1 w' hw]
   ·intro j v hr
    obtain⟨h3,e',h4,h5⟩:=h2 j v hr
    refine⟨by omega,e',?_,h5⟩
    rw [show j - i=(j - (i+1))+1 by omega];simpa using h4
theorem findKey_spot {R:Spot→(Nat→Bool)→Prop} (x:Spot) (w:World) (hx:IsNd w x.n) (es:List MapEntry) (h:∀ e∈es,EntAt w R e) :
  ∃ r,(∀ w',Ext w w'→(Instr.findKey 140 (spotV x) es).run Tryz.prog w'=.ok r w')∧∀ j v,r=some (j,v)→∃ e,es[j]?=some e∧e.key=spotV x∧∃ f,v=plV f∧R x f:=by
 have u:=Tryz.underlying140
 cases es with
 | nil=>exact⟨none,by intro w' _;simp [Instr.findKey,run_underlying u,Instr.findNow],by intro j v h;cases h⟩
 | cons e es=>
  obtain⟨r,h1,h2⟩:=findAsking_spot x w hx (e::es) 0 h
  refine⟨r,?_,fun j v hr=>(h2 j v hr).2⟩
  intro w' hw
  obtain⟨y,f,hk,hv,hy,hR⟩:=h e (by simp)
  simp [Instr.findKey,run_underlying u,Instr.findNow,hk,Instr.sameNow,h1 w' hw]
def MemoAt (w:World) (v:Value) (R:Spot→(Nat→Bool)→Prop):Prop:=
 v=.map none∨∃ b es ck,v=.map (some b)∧w.heap[b]?=some (.map es ck)∧∀ e∈es.toList,EntAt w R e
theorem plV_zero:plV (fun _=>false)=.agg #[.int .u64 0,.int .u64 0]:=by
 have h:∀ b n,word (fun _=>false) b n=0:=by
  intro b n;induction n with
  | zero=>rfl
  | succ n ih=>rw [word,ih];rfl
 unfold plV plCells;rw [h,h];rfl
theorem runGetMap {w:World} {r:Nat} {es:Array MapEntry} {ck:Nat} (hb:w.heap[r]?=some (.map es ck)):(getObj r).run Tryz.prog w=.ok (.map es ck) w:=by
 simp [getObj,Sem.run,hb]
theorem runSetMap {w:World} {r:Nat} {es:Array MapEntry} {ck:Nat} (o:Obj) (hb:w.heap[r]?=some (.map es ck)):(setObj r o).run Tryz.prog w=.ok () { w with heap:=w.heap.setIfInBounds r o }:=by
 simp [setObj,Sem.run,hb]
def lookOp (v k:Value):Sem Value:=Instr.lookup 157 v k true
theorem lookup_is (v k:Value):Instr.lookup 157 v k true=lookOp v k:=rfl
def updOp (v k x:Value):Sem Unit:=Instr.mapUpdate 157 v k x
theorem update_is (v k x:Value):Instr.mapUpdate 157 v k x=updOp v k x:=rfl
theorem lookup_spot {R:Spot→(Nat→Bool)→Prop} (x:Spot) (w:World) (hx:IsNd w x.n) (v:Value) (h:MemoAt w v R) :
  ∃ f ok,(∀ w',Ext w w'→(lookOp v (spotV x)).run Tryz.prog w'=.ok (.tuple #[plV f,.bool ok]) w')∧(ok=true→R x f):=by
 have u:=Tryz.underlying157
 unfold lookOp
 rcases h with rfl|⟨b,es,ck,rfl,hb,he⟩
 ·refine⟨fun _=>false,false,?_,by simp⟩
  obtain⟨r,h1,h2⟩:=findKey_spot (R:=R) x w hx [] (by simp)
  intro w' hw
  have h1:=h1 w' hw
  cases r with
  | none=>simp [Instr.lookup,run_underlying u,checkSpot,h1,plV_zero]
  | some r=>obtain⟨e,h3,_⟩:=h2 r.1 r.2 rfl;simp at h3
 ·obtain⟨r,h1,h2⟩:=findKey_spot x w hx es.toList he
  cases r with
  | none=>
   refine⟨fun _=>false,false,?_,by simp⟩
   intro w' hw
   have h1:=h1 w' hw
   have hb:=(hw b (lt_of_heap hb)).trans hb
   simp [Instr.lookup,run_underlying u,runGetMap hb,checkSpot,h1,plV_zero]
  | some r=>
   obtain⟨e,_,_,f,hv,hR⟩:=h2 r.1 r.2 rfl
   refine⟨f,true,?_,fun _=>hR⟩
   intro w' hw
   have h1:=h1 w' hw
   have hb:=(hw b (lt_of_heap hb)).trans hb
   simp [Instr.lookup,run_underlying u,runGetMap hb,checkSpot,h1,hv]
theorem sameSpot (x:Spot):Instr.sameBits 10000 (spotV x) (spotV x)=true:=by
 unfold spotV
 rw [show (10000:Nat)=9999+1 from rfl]
 simp [Instr.sameBits]
theorem update_spot {R:Spot→(Nat→Bool)→Prop} (x:Spot) (f:Nat→Bool) (w:World) (hx:IsNd w x.n) (b:Nat) (es:Array MapEntry) (ck:Nat) (hb:w.heap[b]?=some (.map es ck)) (he:∀ e∈es.toList,EntAt w R e) (hR:R x f) :
  ∃ es' ck',(updOp (.map (some b)) (spotV x) (plV f)).run Tryz.prog w=.ok () { w with heap:=w.heap.setIfInBounds b (.map es' ck') }∧∀ e∈es'.toList,EntAt w R e:=by
 have u:=Tryz.underlying157
 unfold updOp
 obtain⟨r,h1,h2⟩:=findKey_spot x w hx es.toList he
 have h1:=h1 w (Ext.refl w)
 cases r with
 | none=>
  refine⟨es.push ⟨spotV x,plV f,ck⟩,ck+1,?_,?_⟩
  ·simp [Instr.mapUpdate,run_underlying u,runGetMap hb,runSetMap _ hb,checkSpot,h1]
  ·intro e h
   simp at h
   rcases h with h|rfl
   ·exact he e (by simpa using h)
   ·exact⟨x,f,rfl,rfl,hx,hR⟩
 | some r=>
  obtain⟨e0,h3,h4,f0,hv,hR0⟩:=h2 r.1 r.2 rfl
  have h3':es[r.1]?=some e0:=by simpa using h3
  refine⟨es.modify r.1 (fun e=>{ e with key:=spotV x,val:=plV f }),ck,?_,?_⟩
  ·simp [Instr.mapUpdate,run_underlying u,runGetMap hb,runSetMap _ hb,checkSpot,h1,Instr.keyThatStays,h3',h4,sameSpot]
  ·intro e h
   rw [Array.toList_modify] at h
   obtain⟨j,hj⟩:=List.mem_iff_getElem?.mp h
   rw [List.getElem?_modify] at hj
   simp only [Option.map_eq_map,Option.map_eq_some_iff] at hj
   obtain⟨e1,h5,h6⟩:=hj
   split at h6
   ·subst h6;exact⟨x,f,rfl,rfl,hx,hR⟩
   ·subst h6;exact he e1 (List.mem_iff_getElem?.mpr ⟨j,h5⟩)
end Go.Proofs.YtcpfpnjkfahjcaaGreat
