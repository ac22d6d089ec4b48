import Derived.Test.YtcpfpnjkfahjcaaGreatH01
import Derived.Test.YtcpfpnjkfahjcaaGreatH30
import Derived.Deep.RegionLaw
import Derived.Maps.AppendAt
set_option linter.unusedSimpArgs false
set_option linter.unusedVariables false
/- The document's matcher as a row of nodes: no program is named here. -/
namespace Go.Proofs.YtcpfpnjkfahjcaaGreat
namespace Sp
structure Nd where
 kind:Int
 a:Int
 b:Int
 set:Nat→Bool
 num:Int
def nd (k a b:Int):Nd:=⟨k,a,b,fun _=>false,0⟩
structure Cp where
 ns:List Nd
 told:Int
def Cp.add (c:Cp) (n:Nd):Cp×Int:=(⟨c.ns++[n],c.told⟩,c.ns.length)
def reps (k a:Int):Nat→Cp×Int→Cp×Int
 | 0,x=>x
 | n+1,x=>reps k a n (x.1.add (nd k a x.2))
theorem reps_succ (k a:Int):∀ (n:Nat) (x:Cp×Int),reps k a (n+1) x=(reps k a n x).1.add (nd k a (reps k a n x).2)
 | 0,_=>rfl
 | n+1,x=>by rw [reps,reps_succ k a n];rfl
theorem reps_len (k a:Int):∀ (n:Nat) (x:Cp×Int),(reps k a n x).1.ns.length=x.1.ns.length+n
 | 0,_=>rfl
 | n+1,x=>by rw [reps,reps_len k a n];simp [Cp.add];omega
theorem reps_told (k a:Int):∀ (n:Nat) (x:Cp×Int),(reps k a n x).1.told=x.1.told
 | 0,_=>rfl
 | n+1,x=>by rw [reps,reps_told k a n];rfl
def wrap0 (a:Lab) (x:Cp×Int):Cp×Int:=if a.max < 0 then x.1.add (nd 6 x.2 0) else reps 5 x.2 (a.max - a.min).toNat (x.1.add (nd 0 0 0))
def wrap (a:Lab) (x:Cp×Int):Cp×Int:=if a.min < 0 then x else reps 2 x.2 a.min.toNat (wrap0 a x)
def pick:List Int→Cp×Int→Cp×Int
 | [],x=>x
 | k::r,x=>pick r (if x.2 < 0 then (x.1,k) else x.1.add (nd 3 k x.2))
def chain:List Int→Cp×Int→Cp×Int
 | [],x=>x
 | k::r,x=>chain r (x.1.add (nd 2 k x.2))
def open1 (a:Lab) (c:Cp):Cp:=if a.kind=3∧a.told=true then ⟨c.ns,c.told+1⟩ else c
def numOf (a:Lab) (c:Cp):Int:=if a.told=true then c.told+1 else 0
def bareEnd (a:Lab) (c:Cp) (x:Cp×List Int):Cp×Int:=
 if a.kind≤2 then c.add ⟨1,0,0,fun k=>a.set k != a.not,0⟩
 else if a.kind=3 then x.1.add ⟨4,x.2.headD 0,0,fun _=>false,numOf a c⟩
 else if a.kind=4 then pick x.2.reverse (x.1,-1)
 else chain x.2.reverse (x.1.add (nd 0 0 0))
def comps:List Tr→Cp→Cp×List Int
 | [],c=>(c,[])
 | ⟨a,ks⟩::r,c=> 
  ((comps r (wrap a (bareEnd a c (comps ks (open1 a c)))).1).1,(wrap a (bareEnd a c (comps ks (open1 a c)))).2::(comps r (wrap a (bareEnd a c (comps ks (open1 a c)))).1).2)
def bare (t:Tr) (c:Cp):Cp×Int:=bareEnd t.lab c (comps t.kids (open1 t.lab c))
def comp (t:Tr) (c:Cp):Cp×Int:=wrap t.lab (bare t c)
theorem comps_nil (c:Cp):comps [] c=(c,[]):=by rw [comps]
theorem comps_cons (t:Tr) (r:List Tr) (c:Cp):comps (t::r) c=((comps r (comp t c).1).1,(comp t c).2::(comps r (comp t c).1).2):=by
 obtain⟨a,ks⟩:=t;rw [comps];rfl
theorem comps_snoc (t:Tr):∀ (l:List Tr) (c:Cp),comps (l++[t]) c=((comp t (comps l c).1).1,(comps l c).2++[(comp t (comps l c).1).2])
 | [],c=>by rw [List.nil_append,comps_cons,comps_nil,comps_nil];rfl
 | u::r,c=>by rw [List.cons_append,comps_cons,comps_snoc t r,comps_cons];rfl
end Sp
open Go.RowKit
section
variable {P:Program}
theorem step_append_own {ops:Array Oper} {o:Oper} {a:Act} {w:World} {K:Act→World→Prop} {Q:Exit→Act→World→Prop} {E:Prop} (hgd:o.guard=none) (s x:Operand) (t:TypeId)
  (ho:o.op=.call { callee:=.builtin .append,args:=#[s,x],argTypes:=#[t,t] })
  (base:Nat) (e:TypeId) (i:TypeInfo) (z:Value) (size bytes:Nat) (ht:P.underlying t=some (.slice e)) (hi:P.info? e=some i) (hz:i.zero=some z)
  (hsize:i.size=size) (hby:i.bytes=bytes) (hzs:z.cells.size=size) (hsz:0 < size)
  (v:Value) (n:Nat) (xs:List Value) (hs:a.eval s=v) (hown:w.ownsRow base e size v n xs)
  (ad:Addr) (m c:Nat) (news:List Value) (hx:a.eval x=.slice (some ad) m c) (hl:news.length=m * size) (hnews:∀ j u,news[j]?=some u→w.cell? (ad.add j)=some u) (h1:∀ u∈news,u.oneCell'=true)
  (h63:n+m≤maxLen) (hbytes:(n+m) * bytes≤140737488355328) (hbase:base≤w.heap.size)
  (h:∀ v' w',w'.ownsRow base e size v' (n+m) (xs++news)→w.grownBy w' v.ownBlock→(v'=.slice none 0 0↔v=.slice none 0 0∧m=0)→(v'.ownBlock=v.ownBlock∨v'.ownBlock=some w.heap.size)→K (a.put o.dst v') w') :
  if Region.wanted o (yielded ops a.tmps)=true then Oper.wp P o a w K Q else E:=by
 have hw:Region.wanted o (yielded ops a.tmps)=true:=by simp [Region.wanted,hgd]
 rw [if_pos hw]
 obtain⟨v',w',hr,h2,h3,h4,h5⟩:=run_append_own_at (P:=P) w base t o.type e i z size bytes ht hi hz hsize hby hzs hsz v n xs hown ad m c news hl hnews h1 h63 hbytes hbase
 unfold Oper.wp
 simp only [execOp,ho,resolve,invoke,builtin,Sem.run_bind,Sem.run_pure,Result.andThen_ok,List.map_toArray,List.map_cons,List.map_nil,hs,hx,hr]
 exact h v' w' h2 h3 h4 h5
end
structure RpAt (w:World) (p:Nat) (v:Value) (n:Nat) (xs:List Value) (top told:Int):Prop where
 block:w.heap[p]?=some (.cells #[v,.int .i64 top,.int .i64 told] 82 (0,0))
 own:w.ownsRow (p+1) 129 260 v n xs
theorem infoNode:∃ i z,Tryz.prog.info? 129=some i∧i.zero=some z∧i.size=260∧i.bytes=288∧z.cells.size=260:=by
 have h:(match Tryz.prog.info? 129 with|some i=>(match i.zero with|some z=>(i.size == 260 && i.bytes == 288 && z.cells.size == 260)|none=>false)|none=>false)=true:=by kernel_rfl
 cases hi:Tryz.prog.info? 129 with
 | none=>rw [hi] at h;cases h
 | some i=>
  rw [hi] at h
  cases hz:i.zero with
  | none=>simp [hz] at h
  | some z=>simp [hz] at h;exact⟨i,z,rfl,hz,h.1.1,h.1.2,h.2⟩
def nodeOf (w:World) (b:Nat):Array Value:=match w.heap[b]? with|some (.cells c _ _)=>c|_=>#[]
def nodeOK (w:World) (b:Nat):Bool:=match w.heap[b]? with|some (.cells c _ _)=>c.size == 260|_=>false
theorem nodeOK_drewN (w:World) (b k:Nat):nodeOK (w.drewN k) b=nodeOK w b:=rfl
theorem nodeOf_drewN (w:World) (b k:Nat):nodeOf (w.drewN k) b=nodeOf w b:=rfl
theorem load_node (w:World) (b:Nat) (h:nodeOK w b=true):(loadVar 129 ⟨b,0,none⟩).run Tryz.prog w=.ok (.agg (nodeOf w b)) w:=by
 obtain⟨it,z,hi1,hi2,hi3,hi4,hi5⟩:=infoNode
 unfold nodeOK at h
 unfold nodeOf
 cases hb:w.heap[b]? with
 | none=>rw [hb] at h;cases h
 | some o=>
  rw [hb] at h
  cases o with
  | cells c t fr=>exact run_loadVar_row (P:=Tryz.prog) w b t 129 c fr _ hb Tryz.underlying129 rfl (by rw [hi1];simp at h ⊢;omega)
  | _=>cases h
def bigLoad (v:Value):Sem Value:=Instr.loadAt 129 v
theorem loadAt_node (v:Value):Instr.loadAt 129 v=bigLoad v:=rfl
theorem run_bigLoad (w:World) (b:Nat) (h:nodeOK w b=true):(bigLoad (.pointer (some ⟨b,0,none⟩))).run Tryz.prog w=.ok (.agg (nodeOf w b)) w:=by
 unfold bigLoad
 simp only [Instr.loadAt,Instr.sureAddr,Sem.run_bind,Sem.run_pure,Result.andThen_ok,load_node w b h]
attribute [local go_sem ↓] loadAt_node
theorem splice_list:∀ (l:List Value) (k:Nat) (Z:Array Value),((l.zipIdx k).foldl (fun cs (p:Value×Nat)=>cs.setIfInBounds (0+p.2) p.1) Z).size=Z.size∧∀ i,((l.zipIdx k).foldl (fun cs (p:Value×Nat)=>cs.setIfInBounds (0+p.2) p.1) Z)[i]?=if k≤i∧i < k+l.length∧i < Z.size then l[i - k]? else Z[i]?
 | [],k,Z=>by simp;intro i;omega
 | x::r,k,Z=>by
  have ih:=splice_list r (k+1) (Z.setIfInBounds (0+k) x)
  simp only [List.zipIdx_cons,List.foldl_cons]
  refine⟨by rw [ih.1];simp,fun i=>?_⟩
  rw [ih.2 i]
  simp only [Array.size_setIfInBounds,List.length_cons,Nat.zero_add]
  by_cases h1:k+1≤i∧i < k+1+r.length∧i < Z.size
  ·rw [if_pos h1,if_pos (by omega)]
   rw [show i - k=(i - (k+1))+1 by omega,List.getElem?_cons_succ]
  ·rw [if_neg h1]
   by_cases h2:i=k
   ·subst h2
    by_cases h3:i < Z.size
    ·rw [if_pos (by omega),Array.getElem?_setIfInBounds_self_of_lt h3];simp
    ·rw [if_neg (by omega),Array.getElem?_eq_none (by simp;omega),Array.getElem?_eq_none (by omega)]
   ·rw [if_neg (by omega),Array.getElem?_setIfInBounds_ne (by omega)]
theorem splice_all (c Z:Array Value) (h:Z.size=c.size):c.zipIdx.foldl (fun cs (p:Value×Nat)=>cs.setIfInBounds (0+p.2) p.1) Z=c:=by
 rw [← Array.foldl_toList,Array.toList_zipIdx]
 have q:=splice_list c.toList 0 Z
 apply Array.ext_getElem?
 intro i
 rw [q.2 i]
 by_cases hi:i < c.size
 ·rw [if_pos (by simp;omega)];simp
 ·rw [if_neg (by simp;omega),Array.getElem?_eq_none (by omega),Array.getElem?_eq_none (by omega)]
def bigBuild (ps:Array (Nat×Value)):Sem Value:=Instr.buildSlice 78 1 ps
theorem build_node (ps:Array (Nat×Value)):Instr.buildSlice 78 1 ps=bigBuild ps:=rfl
theorem run_bigBuild (w:World) (c:Array Value) (hc:c.size=260):(bigBuild #[(0,.agg c)]).run Tryz.prog w=.ok (.slice (some ⟨w.heap.size,0,none⟩) 1 1) (w.alloc (.cells c 129)):=by
 obtain⟨it,z,hi1,hi2,hi3,hi4,hi5⟩:=infoNode
 have hsp:∀ Z:Array Value,Z.size=260→c.zipIdx.foldl (fun cs (p:Value×Nat)=>cs.setIfInBounds (0+p.2) p.1) Z=c:=fun Z hZ=>splice_all c Z (by omega)
 have e1:¬ (1 * it.size > 2 ^ 24):=by rw [hi3];decide
 have e1':¬ (2 ^ 24 < it.size):=by rw [hi3];decide
 have e2:¬ (1 * it.size=0):=by rw [hi3];decide
 have e2':¬ (it.size=0):=by rw [hi3];decide
 have efill:∀ Z:Array Value,Z.size=it.size→Instr.fill (fun i=>some (i * it.size,it.size)) Z [(0,.agg c)]=some c:=fun Z hZ=>by
  unfold Instr.fill
  have hcc:(Value.agg c).cells=c:=rfl
  simp only [hcc,Nat.zero_mul]
  rw [if_neg (by simp;omega)]
  unfold Instr.fill
  exact congrArg some (hsp Z (by omega))
 have efill':=efill (Array.map (fun x=>z.cells[x % z.cells.size]!) (Array.range (1 * it.size))) (by simp)
 clear efill hsp
 unfold bigBuild Instr.buildSlice
 simp [Sem.run_bind,run_underlying Tryz.underlying78,sizeOf,typeInfo,hi1,e1',e2',zeroValue,hi2]
 simp at efill'
 rw [efill']
 rfl
attribute [local go_sem ↓] build_node
theorem newsC (c:Array Value) (W:World):∀ j u,c.toList[j]?=some u→(W.alloc (.cells c 129)).cell? ((⟨W.heap.size,0,none⟩:Addr).add j)=some u:=by
 intro j u hj
 have hadd:(⟨W.heap.size,0,none⟩:Addr).add j=⟨W.heap.size,j,none⟩:=by unfold Addr.add;split<;>simp_all
 rw [hadd]
 simpa using hj
theorem own_form' {w:World} {b:Nat} {e:TypeId} {v:Value} {n k:Nat} {xs:List Value} (h:w.ownsRow b e k v (n+1) xs):∃ g cap,v=.slice (some ⟨g,0,none⟩) (n+1) cap:=by
 rcases h.2 with ⟨_,q⟩|⟨g,cap,_,hv,_⟩
 ·omega
 ·exact⟨g,cap,hv⟩
theorem afterAdd {W w1 w5:World} {p:Nat} {v v':Value} {n:Nat} {xs:List Value} {top told:Int} {c:Array Value} (hg:W.grownBy w5 v.ownBlock) (h:RpAt w1 p v n xs top told)
  (hh:W.heap=w1.heap.push (.cells c 129 (0,0))) (ho:W.os=w1.os) (ht:W.tape=w1.tape) (hu:W.output=w1.output)
  (hown:w5.ownsRow (p+1) 129 260 v' (n+1) (xs++c.toList)) (hloc:v'.ownBlock=v.ownBlock∨v'.ownBlock=some W.heap.size) :
  ∃ g5 cap5,v'=.slice (some ⟨g5,0,none⟩) (n+1) cap5∧w5.cell? ⟨p,0,none⟩=some v∧(∀ o,w5.frozen? ⟨p,o,none⟩=false)∧Hid (∃ u,u=v'.ownBlock∧w5.heap[p]?=some (.cells #[v,.int .i64 top,.int .i64 told] 82 (0,0))∧Upd v.ownBlock.toList w1 w5∧(u=v.ownBlock∨u=some (w1.heap.size+1))∧w5.ownsRow (p+1) 129 260 v' (n+1) (xs++c.toList)):=by
 obtain⟨g5,cap5,hv⟩:=own_form' hown
 have hp:=lt_of_heap h.block
 have hs:W.heap.size=w1.heap.size+1:=by rw [hh];simp
 have hb:w5.heap[p]?=some (.cells #[v,.int .i64 top,.int .i64 told] 82 (0,0)):=by
  rw [hg.block p (by omega) (fun e=>by have:=(ownBlock_lt h.own e.symm).2;omega),hh,Array.getElem?_push_lt hp,← Array.getElem?_eq_getElem hp]
  exact h.block
 have hW:Upd v.ownBlock.toList w1 W:=⟨ho,ht,hu,by omega,fun k hk _=>by rw [hh,Array.getElem?_push_lt hk,← Array.getElem?_eq_getElem hk]⟩
 refine⟨g5,cap5,hv,by simp [World.cell?,hb],fun o=>by simp [World.frozen?,hb],_,rfl,hb,hW.trans (Upd.of_grown hg),?_,hown⟩
 rw [hs] at hloc;exact hloc
def AddOut (p:Nat) (v:Value) (n:Nat) (xs:List Value) (top told:Int) (c:Array Value) (w:World) (e:Ending) (w':World):Prop:=
 e=.returned (.int .i64 n)∧∃ v',RpAt w' p v' (n+1) (xs++c.toList) top told∧Upd (p::v.ownBlock.toList) w w'∧(v'.ownBlock=v.ownBlock∨∃ g,v'.ownBlock=some g∧w.heap.size≤g)
theorem addEnd {w w1 w5:World} {p:Nat} {v v':Value} {n:Nat} {xs:List Value} {top told:Int} {c:Array Value} {W:World} (hW:∃ k,W=(w5.setCell ⟨p,0,none⟩ v').drewN k) (h0:Upd [] w w1)
  (h:∃ u,u=v'.ownBlock∧w5.heap[p]?=some (.cells #[v,.int .i64 top,.int .i64 told] 82 (0,0))∧Upd v.ownBlock.toList w1 w5∧(u=v.ownBlock∨u=some (w1.heap.size+1))∧w5.ownsRow (p+1) 129 260 v' (n+1) (xs++c.toList)) :
  AddOut p v n xs top told c w (.returned (.int .i64 n)) W:=by
 obtain⟨k,rfl⟩:=hW
 obtain⟨u,hu,hb,hU,hl,ho⟩:=h
 have hv:∀ g,v'.ownBlock=some g→p < g:=fun g hg=>by have:=(ownBlock_lt ho hg).2;omega
 refine⟨rfl,v',⟨?_,?_⟩,?_,?_⟩
 ·have:=heap_set hb 0 v'
  simpa [World.drewN] using this
 ·exact ownsRow_same (w:=w5) ho (fun g hg _=>Below.heap_setCell _ _ _ _ (by have:=hv g hg;simp;omega))
 ·exact (((h0.mono (by simp)).trans (hU.mono (by simp +contextual))).setCell (p:=⟨p,0,none⟩) (by simp) _).drewN
 ·rcases hl with q|q
  ·exact Or.inl (hu ▸ q)
  ·exact Or.inr ⟨_,hu ▸ q,by have:=h0.size;omega⟩
set_option maxRecDepth 100000 in
set_option maxHeartbeats 1000000 in
theorem add_any (p:Nat) (v:Value) (n:Nat) (xs:List Value) (top told:Int) (c:Array Value) (hc:c.size=260) (hone:∀ u∈c.toList,u.oneCell'=true) (hn:n≤1000000) (w:World) (h:RpAt w p v n xs top told) :
  Calls Tryz.prog 46 #[.pointer (some ⟨p,0,none⟩),.agg c] w (AddOut p v n xs top told c w):=by
 obtain⟨it,z,hi1,hi2,hi3,hi4,hi5⟩:=infoNode
 have hp:p < w.heap.size:=lt_of_heap h.block
 have hc0:w.cell? ⟨p,0,none⟩=some v:=by simp [World.cell?,h.block]
 have hfz:∀ o,w.frozen? ⟨p,o,none⟩=false:=fun o=>by simp [World.frozen?,h.block]
 have HH:Hid (RpAt w p v n xs top told):=h
 have HI:Hid (Tryz.prog.info? 129=some it∧it.zero=some z∧it.size=260∧it.bytes=288∧z.cells.size=260):=⟨hi1,hi2,hi3,hi4,hi5⟩
 clear h hi1 hi2 hi3 hi4 hi5
 go_enter Tryz.func46,Tryz.ntmps46
 go_wp2_with fail
 have HU0:Hid (Upd [] w (w.alloc (.cells c 129))):=(Upd.refl _ _).alloc _
 have HH1:Hid (RpAt (w.alloc (.cells c 129)) p v n xs top told):=⟨by rw [Below.heap_alloc _ _ _ hp];exact HH.out.block,HH.out.own.alloc _⟩
 have hb1:(w.alloc (.cells c 129)).heap[w.heap.size]?=some (.cells c 129 (0,0)):=by show (w.heap.push _)[w.heap.size]?=_;simp
 have HSZ:Hid ((w.alloc (.cells c 129)).heap.size=w.heap.size+1):=by show _=_;simp
 generalize (w.alloc (.cells c 129))=w1 at *
 have hcp:w1.cell? ⟨p,0,none⟩=some v:=by simp [World.cell?,HH1.out.block]
 have hfp:∀ o,w1.frozen? ⟨p,o,none⟩=false:=fun o=>by simp [World.frozen?,HH1.out.block]
 have hcp2:(w1.alloc (Obj.cells c 129)).cell? ⟨p,0,none⟩=some v:=by
  have hlt:p < w1.heap.size:=lt_of_heap HH1.out.block
  simp only [World.cell?,Below.heap_alloc _ _ _ hlt,HH1.out.block];rfl
 have hno:nodeOf w1 w.heap.size=c:=by unfold nodeOf;rw [hb1]
 have hok:nodeOK w1 w.heap.size=true:=by unfold nodeOK;rw [hb1];simpa using hc
 have hl1:∀ k,(bigLoad (.pointer (some ⟨w.heap.size,0,none⟩))).run Tryz.prog (w1.drewN k)=.ok (.agg c) (w1.drewN k):=fun k=>by rw [run_bigLoad _ _ (by rw [nodeOK_drewN];exact hok),nodeOf_drewN,hno]
 have hl2:(bigLoad (.pointer (some ⟨w.heap.size,0,none⟩))).run Tryz.prog w1.drew=.ok (.agg c) w1.drew:=hl1 1
 clear hno hok
 have hbld:=fun (w:World)=>run_bigBuild w c hc
 clear hc0 hfz hb1
 have H63:Hid (n+1≤maxLen):=by unfold Hid maxLen;omega
 have HBY:Hid ((n+1) * 288≤140737488355328):=by unfold Hid;omega
 have hp1:p+1≤w1.heap.size:=by have:=HSZ.out;omega
 go_region_law (refine step_append_own rfl _ _ 78 rfl (p+1) 129 it z 260 288 Tryz.underlying78 HI.out.1 HI.out.2.1 HI.out.2.2.1 HI.out.2.2.2.1 HI.out.2.2.2.2 (by decide) v n xs (by simp [Act.eval,Act.put]) (by exact HH1.out.own.alloc _) ⟨w1.heap.size,0,none⟩ 1 1 c.toList (by simp [Act.eval,Act.put]) (by simp [hc]) (by exact newsC c w1) hone H63.out HBY.out (by simp;omega) ?_;intro v' w5 hown' hgrow hnil hloc;obtain⟨g5,cap5,hv5,hc5,hf5,HX5⟩:=afterAdd hgrow HH1.out rfl rfl rfl rfl hown' hloc;subst hv5;clear hown' hgrow hnil hloc)
 all_goals
  go_wp2_with fail
  go_ret
  exact addEnd ⟨0,rfl⟩ HU0.out HX5.out
def ndCells (n:Sp.Nd):List Value:=.int .i64 n.kind::.int .i64 n.a::.int .i64 n.b::((List.range 256).map (fun c=>Value.bool (n.set c))++[.int .i64 n.num])
def ndArr (n:Sp.Nd):Array Value:=(ndCells n).toArray
theorem ndArr_size (n:Sp.Nd):(ndArr n).size=260:=by simp [ndArr,ndCells]
theorem ndArr_one (n:Sp.Nd):∀ u∈(ndArr n).toList,u.oneCell'=true:=by
 intro u hu
 simp only [ndArr,ndCells,List.mem_cons,List.mem_append,List.mem_map,List.not_mem_nil,or_false] at hu
 rcases hu with rfl|rfl|rfl|⟨c,_,rfl⟩|rfl<;>rfl
def bigNode (ps:Array (Nat×Value)):Sem Value:=Instr.build 129 ps
theorem build_bigNode (ps:Array (Nat×Value)):Instr.build 129 ps=bigNode ps:=rfl
theorem run_bigNode1 (k:Int) (w:World):(bigNode #[(0,.int .i64 k)]).run Tryz.prog w=.ok (.agg (ndArr (Sp.nd k 0 0))) w:=by kernel_rfl
theorem run_bigNode2 (k a:Int) (w:World):(bigNode #[(0,.int .i64 k),(1,.int .i64 a)]).run Tryz.prog w=.ok (.agg (ndArr (Sp.nd k a 0))) w:=by kernel_rfl
theorem run_bigNode3 (k a b:Int) (w:World):(bigNode #[(0,.int .i64 k),(1,.int .i64 a),(2,.int .i64 b)]).run Tryz.prog w=.ok (.agg (ndArr (Sp.nd k a b))) w:=by kernel_rfl
def ownB (w:World) (p:Nat):Option Nat:=match w.heap[p]? with|some (.cells c _ _)=>c[0]?.bind Value.ownBlock|_=>none
theorem RpAt.ownB {w:World} {p:Nat} {v:Value} {n:Nat} {xs:List Value} {top told:Int} (h:RpAt w p v n xs top told):ownB w p=v.ownBlock:=by
 unfold Go.Proofs.YtcpfpnjkfahjcaaGreat.ownB;rw [h.block];rfl
theorem ownB_same {w w':World} {p:Nat} (h:w'.heap[p]?=w.heap[p]?):ownB w' p=ownB w p:=by unfold ownB;rw [h]
structure Bel (p:Nat) (w w':World):Prop where
 os:w'.os=w.os
 tape:w'.tape=w.tape
 output:w'.output=w.output
 size:w.heap.size≤w'.heap.size
 block:∀ k,k < p→k < w.heap.size→w'.heap[k]?=w.heap[k]?
 rest:∀ k,k < w.heap.size→k≠p→ownB w p≠some k→w'.heap[k]?=w.heap[k]?
 own:ownB w' p=ownB w p∨∃ g,ownB w' p=some g∧w.heap.size≤g
theorem Bel.refl (p:Nat) (w:World):Bel p w w:=⟨rfl,rfl,rfl,Nat.le_refl _,fun _ _ _=>rfl,fun _ _ _ _=>rfl,Or.inl rfl⟩
theorem Bel.trans {p:Nat} {a b c:World} (h:Bel p a b) (k:Bel p b c):Bel p a c:=
  ⟨k.os.trans h.os,k.tape.trans h.tape,k.output.trans h.output,Nat.le_trans h.size k.size,fun i hi hl=>(k.block i hi (Nat.lt_of_lt_of_le hl h.size)).trans (h.block i hi hl),
   fun i hi hp ho=>(k.rest i (Nat.lt_of_lt_of_le hi h.size) hp (fun e=>by
     rcases h.own with q|⟨g,q,hg⟩
     · exact ho (q ▸ e)
     · rw [q] at e;simp at e;omega)).trans (h.rest i hi hp ho),
   by
    have hs:=h.size
    rcases k.own with q|⟨g,q,hg⟩
    · rcases h.own with r|⟨g,r,hg⟩
      · exact Or.inl (q.trans r)
      · exact Or.inr ⟨g,q.trans r,hg⟩
    · exact Or.inr ⟨g,q,by omega⟩⟩
theorem Bel.drewN {p:Nat} {a b:World} (h:Bel p a b) (n:Nat):Bel p a (b.drewN n):=⟨h.os,h.tape,h.output,h.size,h.block,h.rest,h.own⟩
theorem PtAt.bel {p q:Nat} {w w':World} {a:PS} (h:PtAt w q a) (u:Bel p w w') (hq:q < p):PtAt w' q a:=h.same (u.block q hq h.lt)
def CpAt (w:World) (p:Nat) (c:Sp.Cp) (top:Int):Prop:=∃ v,RpAt w p v c.ns.length (c.ns.flatMap ndCells) top c.told
def RCompOut (p:Nat) (r:Sp.Cp×Int) (top:Int) (w:World) (e:Ending) (w':World):Prop:=e=.returned (.int .i64 r.2)∧CpAt w' p r.1 top∧Bel p w w'
theorem add_cp (p:Nat) (c:Sp.Cp) (top:Int) (n:Sp.Nd) (w:World) (h:CpAt w p c top) (hn:c.ns.length≤1000000) :
  Calls Tryz.prog 46 #[.pointer (some ⟨p,0,none⟩),.agg (ndArr n)] w (RCompOut p (c.add n) top w):=by
 obtain⟨v,hv⟩:=h
 refine (add_any p v _ _ top c.told (ndArr n) (ndArr_size n) (ndArr_one n) hn w hv).mono ?_
 rintro e w' ⟨rfl,v',hp,hu,hl⟩
 have hlt:∀ k,v.ownBlock=some k→p < k:=fun k hk=>by have:=(ownBlock_lt hv.own hk).2;omega
 refine⟨rfl,⟨v',?_⟩,⟨hu.os,hu.tape,hu.output,hu.size,fun k hk hs=>hu.block k hs (fun e=>?_),fun k hs hk ho=>hu.block k hs (fun e=>?_),?_⟩⟩
 ·have e1:(c.add n).1.ns.length=c.ns.length+1:=by simp [Sp.Cp.add]
  have e2:(c.add n).1.ns.flatMap ndCells=c.ns.flatMap ndCells++(ndArr n).toList:=by simp [Sp.Cp.add,ndArr]
  rw [e1,e2];exact hp
 ·simp at e
  rcases e with e|e
  ·omega
  ·have:=hlt k (by simpa using e);omega
 ·rw [hv.ownB] at ho
  simp at e
  rcases e with e|e
  ·exact hk e
  ·exact ho (by simpa using e)
 ·rw [hp.ownB,hv.ownB];exact hl
def CompC (f:Nat) (g:Sp.Cp→Sp.Cp×Int) (p q:Nat) (w0:World):Prop:=∀ w c top,Bel p w0 w→CpAt w p c top→(g c).1.ns.length≤1000000→0≤c.told→(g c).1.told≤1000000→
 Calls Tryz.prog f #[.pointer (some ⟨p,0,none⟩),.pointer (some ⟨q,0,none⟩)] w (RCompOut p (g c) top w)
theorem Sp.wrap0_len (a:Lab) (x:Sp.Cp×Int):x.1.ns.length+1≤(Sp.wrap0 a x).1.ns.length:=by
 unfold Sp.wrap0;split
 ·simp [Sp.Cp.add]
 ·rw [Sp.reps_len];simp [Sp.Cp.add]
theorem Sp.wrap_len (a:Lab) (x:Sp.Cp×Int):x.1.ns.length≤(Sp.wrap a x).1.ns.length:=by
 unfold Sp.wrap;split
 ·omega
 ·rw [Sp.reps_len];have:=Sp.wrap0_len a x;omega
theorem Sp.wrap_told (a:Lab) (x:Sp.Cp×Int):(Sp.wrap a x).1.told=x.1.told:=by
 unfold Sp.wrap Sp.wrap0
 split
 ·rfl
 ·rw [Sp.reps_told];split
  ·rfl
  ·rw [Sp.reps_told];rfl
structure RepInv (p:Nat) (top:Int) (w:World) (k b:Int) (y:Sp.Cp×Int) (lo hi:Int) (gn:Nat) (o i:Value) (wr:World):Prop where
 st:∃ j:Nat,o=.int .i64 (Sp.reps k b j y).2∧i=.int .i64 (lo+j)∧gn+j=(hi - lo).toNat∧CpAt wr p (Sp.reps k b j y).1 top
 bel:Bel p w wr
attribute [local go_sem ↓] build_bigNode
set_option maxHeartbeats 1000000 in
theorem node_core (p q:Nat) (t:Tr) (l:Value) (w0:World) (hq:PtAt w0 q (psOf t.lab l)) (hqp:q < p) (ha:Sp.LabOK t.lab) (hb:CompC 45 (Sp.bare t) p q w0):CompC 24 (Sp.comp t) p q w0:=by
 intro w c top hbel hcp hlen ht0 ht1
 have ht2:(Sp.bare t c).1.told≤1000000:=by unfold Sp.comp at ht1;rw [Sp.wrap_told] at ht1;exact ht1
 have hlen1:(Sp.bare t c).1.ns.length≤1000000:=by have:=Sp.wrap_len t.lab (Sp.bare t c);unfold Sp.comp at hlen;omega
 have HL:Hid ((Sp.wrap t.lab (Sp.bare t c)).1.ns.length≤1000000):=hlen
 have HA:Hid (Sp.LabOK t.lab):=ha
 have hq0:Hid (PtAt w q (psOf t.lab l)):=hq.bel hbel hqp
 have HG:Hid (Sp.comp t c=Sp.wrap t.lab (Sp.bare t c)):=rfl
 have hcall:=hb w c top hbel hcp hlen1 ht0 ht2
 clear ht0 ht1 ht2 hq hb hbel hcp hlen ha
 rw [HG.out]
 clear HG
 go_enter Tryz.func24,Tryz.ntmps24
 go_wp2_with fail
 refine hcall.mono ?_
 clear hcall
 rintro e w1 ⟨rfl,hcp1,hbel1⟩
 have hq1:Hid (PtAt w1 q (psOf t.lab l)):=hq0.out.bel hbel1 hqp
 have HC1:Hid (CpAt w1 p (Sp.bare t c).1 top):=hcp1
 have HB1:Hid (Bel p w w1):=hbel1
 generalize Sp.bare t c=x at *
 generalize t.lab=a at *
 clear hcp1 hbel1
 obtain⟨p0,p1,p258,p259,p260,p261,p262,p263,pz⟩:=hq1.out.facts
 have q262:w1.cell? ⟨q,262,none⟩=some (.int .i64 a.min):=p262
 have q263:w1.cell? ⟨q,263,none⟩=some (.int .i64 a.max):=p263
 have h0:=HA.out.min0
 have h1:=HA.out.min1
 have h2:=HA.out.max0
 have h3:=HA.out.max1
 clear p0 p1 p258 p259 p260 p261 p262 p263 HA
 by_cases hm:a.min < 0
 ·have HW:Hid (Sp.wrap a x=x):=by show _=_;unfold Sp.wrap;rw [if_pos hm]
  go_wp2_with fail
  go_ret
  exact⟨ret_int (by rw [HW.out]),by rw [HW.out];exact HC1.out,HB1.out⟩
 ·have HW:Hid (Sp.wrap a x=Sp.reps 2 x.2 a.min.toNat (Sp.wrap0 a x)):=by show _=_;unfold Sp.wrap;rw [if_neg hm]
  by_cases hM:a.max < 0
  ·have HW0:Hid (Sp.wrap0 a x=x.1.add (Sp.nd 6 x.2 0)):=by show _=_;unfold Sp.wrap0;rw [if_pos hM]
   have hbn:=run_bigNode2
   go_wp2_with fail
   refine (add_cp p x.1 top _ w1 HC1.out hlen1).mono ?_
   rintro e w2 ⟨rfl,hc2,hb2⟩
   clear hbn
   have HC2:Hid (CpAt w2 p (Sp.wrap0 a x).1 top):=by show CpAt _ _ _ _;rw [HW0.out];exact hc2
   have HB2:Hid (Bel p w w2):=HB1.out.trans hb2
   have HV2:Hid ((x.1.add (Sp.nd 6 x.2 0)).2=(Sp.wrap0 a x).2):=by show _=_;rw [HW0.out]
   rw [HV2.out]
   clear hc2 hb2 HV2 HC1 HB1 hq1 q262 q263 pz
   go_wp2_with fail
   go_loopg [6,8] (a.min - 0).toNat (fun gn o i wr=>RepInv p top w 2 x.2 (Sp.wrap0 a x) 0 a.min gn o i wr)
   case atStart=>exact⟨⟨0,rfl,by go_num,by omega,HC2.out⟩,HB2.out⟩
   case round=>
    clear HC2 HB2
    obtain⟨⟨j,rfl,rfl,hj,hc⟩,hbl⟩:=hrel
    have HJ:Hid (gk+j=(a.min - 0).toNat):=hj
    obtain⟨p0,p1,p258,p259,p260,p261,p262,p263,pz⟩:=(hq0.out.bel hbl hqp).facts
    have q262:wr.cell? ⟨q,262,none⟩=some (.int .i64 a.min):=p262
    have q263:wr.cell? ⟨q,263,none⟩=some (.int .i64 a.max):=p263
    have HCr:Hid (CpAt wr p (Sp.reps 2 x.2 j (Sp.wrap0 a x)).1 top):=hc
    have HBr:Hid (Bel p w wr):=hbl
    clear p0 p1 p258 p259 p260 p261 p262 p263 hc hbl hj
    by_cases hlt:0 < gk
    ·obtain⟨fuel,rfl⟩:∃ n,gk=n+1:=⟨gk - 1,by omega⟩
     have HLr:Hid ((Sp.reps 2 x.2 j (Sp.wrap0 a x)).1.ns.length≤1000000):=by show _≤_;rw [Sp.reps_len];have h6:=HL.out;rw [HW.out,Sp.reps_len] at h6;have:=HJ.out;omega
     have HN:Hid (Sp.reps 2 x.2 (j+1) (Sp.wrap0 a x)=(Sp.reps 2 x.2 j (Sp.wrap0 a x)).1.add (Sp.nd 2 x.2 (Sp.reps 2 x.2 j (Sp.wrap0 a x)).2)):=Sp.reps_succ _ _ _ _
     have hjj:0+(j:Int) < a.min:=by have:=HJ.out;omega
     have hjn:(j:Int)≤40:=by have:=HJ.out;omega
     generalize Sp.reps 2 x.2 j (Sp.wrap0 a x)=z at *
     have hbn:=run_bigNode3
     go_wp2_with fail
     refine (add_cp p z.1 top _ wr HCr.out HLr.out).mono ?_
     rintro e w3 ⟨rfl,hc3,hb3⟩
     clear hbn
     have HC3:Hid (CpAt w3 p (z.1.add (Sp.nd 2 x.2 z.2)).1 top):=hc3
     have HB3:Hid (Bel p w w3):=HBr.out.trans hb3
     clear hc3 hb3
     go_wp2_with fail
     go_roundg fuel
     case measure=>omega
     case rel=>exact⟨⟨j+1,by rw [HN.out],by go_num,by have:=HJ.out;omega,by rw [HN.out];exact HC3.out⟩,HB3.out⟩
    ·have hjj:¬ (0+(j:Int) < a.min):=by have:=HJ.out;omega
     have hjn:(j:Int)≤40:=by have:=HJ.out;omega
     have hgj:j=(a.min - 0).toNat:=by have:=HJ.out;omega
     have HE:Hid (Sp.wrap a x=Sp.reps 2 x.2 j (Sp.wrap0 a x)):=by show _=_;rw [HW.out,hgj];simp
     clear hgj
     generalize Sp.reps 2 x.2 j (Sp.wrap0 a x)=z at *
     go_wp2_with fail
     go_ret
     exact⟨ret_int (by rw [HE.out]),by rw [HE.out];exact HCr.out,HBr.out⟩
  ·have HW0:Hid (Sp.wrap0 a x=Sp.reps 5 x.2 (a.max - a.min).toNat (x.1.add (Sp.nd 0 0 0))):=by show _=_;unfold Sp.wrap0;rw [if_neg hM]
   have hbn:=run_bigNode1
   go_wp2_with fail
   refine (add_cp p x.1 top _ w1 HC1.out hlen1).mono ?_
   rintro e w2 ⟨rfl,hc2,hb2⟩
   clear hbn
   have HC2:Hid (CpAt w2 p (x.1.add (Sp.nd 0 0 0)).1 top):=hc2
   have HB2:Hid (Bel p w w2):=HB1.out.trans hb2
   have hq2:=(hq0.out.bel HB2.out hqp).facts
   obtain⟨p0,p1,p258,p259,p260,p261,p262,p263,pz2⟩:=hq2
   have r262:w2.cell? ⟨q,262,none⟩=some (.int .i64 a.min):=p262
   clear hc2 hb2 HC1 HB1 hq1 q262 q263 pz p0 p1 p258 p259 p260 p261 p262 p263
   go_wp2_with fail
   clear r262 pz2
   go_loopg [6,7] (a.max - a.min).toNat (fun gn o i wr=>RepInv p top w 5 x.2 (x.1.add (Sp.nd 0 0 0)) a.min a.max gn o i wr)
   case atStart=>exact⟨⟨0,rfl,by go_num,by omega,HC2.out⟩,HB2.out⟩
   case round=>
    clear HC2 HB2
    obtain⟨⟨j,rfl,rfl,hj,hc⟩,hbl⟩:=hrel
    have HJ:Hid (gk+j=(a.max - a.min).toNat):=hj
    obtain⟨p0,p1,p258,p259,p260,p261,p262,p263,pz⟩:=(hq0.out.bel hbl hqp).facts
    have q262:wr.cell? ⟨q,262,none⟩=some (.int .i64 a.min):=p262
    have q263:wr.cell? ⟨q,263,none⟩=some (.int .i64 a.max):=p263
    have HCr:Hid (CpAt wr p (Sp.reps 5 x.2 j (x.1.add (Sp.nd 0 0 0))).1 top):=hc
    have HBr:Hid (Bel p w wr):=hbl
    clear p0 p1 p258 p259 p260 p261 p262 p263 hc hbl hj
    by_cases hlt:0 < gk
    ·obtain⟨fuel,rfl⟩:∃ n,gk=n+1:=⟨gk - 1,by omega⟩
     have HLr:Hid ((Sp.reps 5 x.2 j (x.1.add (Sp.nd 0 0 0))).1.ns.length≤1000000):=by show _≤_;rw [Sp.reps_len];have h6:=HL.out;rw [HW.out,Sp.reps_len,HW0.out,Sp.reps_len] at h6;have:=HJ.out;omega
     have HN:Hid (Sp.reps 5 x.2 (j+1) (x.1.add (Sp.nd 0 0 0))=(Sp.reps 5 x.2 j (x.1.add (Sp.nd 0 0 0))).1.add (Sp.nd 5 x.2 (Sp.reps 5 x.2 j (x.1.add (Sp.nd 0 0 0))).2)):=Sp.reps_succ _ _ _ _
     have hjj:a.min+(j:Int) < a.max:=by have:=HJ.out;omega
     have hjn:(j:Int)≤40:=by have:=HJ.out;omega
     generalize Sp.reps 5 x.2 j (x.1.add (Sp.nd 0 0 0))=z at *
     have hbn:=run_bigNode3
     go_wp2_with fail
     refine (add_cp p z.1 top _ wr HCr.out HLr.out).mono ?_
     rintro e w3 ⟨rfl,hc3,hb3⟩
     clear hbn
     have HC3:Hid (CpAt w3 p (z.1.add (Sp.nd 5 x.2 z.2)).1 top):=hc3
     have HB3:Hid (Bel p w w3):=HBr.out.trans hb3
     clear hc3 hb3
     go_wp2_with fail
     go_roundg fuel
     case measure=>omega
     case rel=>exact⟨⟨j+1,by rw [HN.out],by go_num,by have:=HJ.out;omega,by rw [HN.out];exact HC3.out⟩,HB3.out⟩
    ·have hjj:¬ (a.min+(j:Int) < a.max):=by have:=HJ.out;omega
     have hjn:(j:Int)≤40:=by have:=HJ.out;omega
     have hgj:j=(a.max - a.min).toNat:=by have:=HJ.out;omega
     have HC2:Hid (CpAt wr p (Sp.wrap0 a x).1 top):=by show CpAt _ _ _ _;rw [HW0.out,← hgj];exact HCr.out
     have HB2:Hid (Bel p w wr):=HBr.out
     have HV2:Hid ((Sp.reps 5 x.2 j (x.1.add (Sp.nd 0 0 0))).2=(Sp.wrap0 a x).2):=by show _=_;rw [HW0.out,← hgj]
     rw [HV2.out]
     clear HCr HBr hgj HJ HV2
     go_wp2_with fail
     go_loopg [6,8] (a.min - 0).toNat (fun gn o i wr=>RepInv p top w 2 x.2 (Sp.wrap0 a x) 0 a.min gn o i wr)
     case atStart=>exact⟨⟨0,rfl,by go_num,by omega,HC2.out⟩,HB2.out⟩
     case round=>
      clear HC2 HB2
      obtain⟨⟨j,rfl,rfl,hj,hc⟩,hbl⟩:=hrel
      have HJ:Hid (gk+j=(a.min - 0).toNat):=hj
      obtain⟨p0,p1,p258,p259,p260,p261,p262,p263,pz⟩:=(hq0.out.bel hbl hqp).facts
      have q262:wr.cell? ⟨q,262,none⟩=some (.int .i64 a.min):=p262
      have q263:wr.cell? ⟨q,263,none⟩=some (.int .i64 a.max):=p263
      have HCr:Hid (CpAt wr p (Sp.reps 2 x.2 j (Sp.wrap0 a x)).1 top):=hc
      have HBr:Hid (Bel p w wr):=hbl
      clear p0 p1 p258 p259 p260 p261 p262 p263 hc hbl hj
      by_cases hlt:0 < gk
      ·obtain⟨fuel,rfl⟩:∃ n,gk=n+1:=⟨gk - 1,by omega⟩
       have HLr:Hid ((Sp.reps 2 x.2 j (Sp.wrap0 a x)).1.ns.length≤1000000):=by show _≤_;rw [Sp.reps_len];have h6:=HL.out;rw [HW.out,Sp.reps_len] at h6;have:=HJ.out;omega
       have HN:Hid (Sp.reps 2 x.2 (j+1) (Sp.wrap0 a x)=(Sp.reps 2 x.2 j (Sp.wrap0 a x)).1.add (Sp.nd 2 x.2 (Sp.reps 2 x.2 j (Sp.wrap0 a x)).2)):=Sp.reps_succ _ _ _ _
       have hjj:0+(j:Int) < a.min:=by have:=HJ.out;omega
       have hjn:(j:Int)≤40:=by have:=HJ.out;omega
       generalize Sp.reps 2 x.2 j (Sp.wrap0 a x)=z at *
       have hbn:=run_bigNode3
       go_wp2_with fail
       refine (add_cp p z.1 top _ wr HCr.out HLr.out).mono ?_
       rintro e w3 ⟨rfl,hc3,hb3⟩
       clear hbn
       have HC3:Hid (CpAt w3 p (z.1.add (Sp.nd 2 x.2 z.2)).1 top):=hc3
       have HB3:Hid (Bel p w w3):=HBr.out.trans hb3
       clear hc3 hb3
       go_wp2_with fail
       go_roundg fuel
       case measure=>omega
       case rel=>exact⟨⟨j+1,by rw [HN.out],by go_num,by have:=HJ.out;omega,by rw [HN.out];exact HC3.out⟩,HB3.out⟩
      ·have hjj:¬ (0+(j:Int) < a.min):=by have:=HJ.out;omega
       have hjn:(j:Int)≤40:=by have:=HJ.out;omega
       have hgj:j=(a.min - 0).toNat:=by have:=HJ.out;omega
       have HE:Hid (Sp.wrap a x=Sp.reps 2 x.2 j (Sp.wrap0 a x)):=by show _=_;rw [HW.out,hgj];simp
       clear hgj
       generalize Sp.reps 2 x.2 j (Sp.wrap0 a x)=z at *
       go_wp2_with fail
       go_ret
       exact⟨ret_int (by rw [HE.out]),by rw [HE.out];exact HCr.out,HBr.out⟩
theorem ndCells_len (n:Sp.Nd):(ndCells n).length=260:=by simp [ndCells]
theorem ndCells_set (n:Sp.Nd) (c:Nat) (hc:c < 256) (v:Bool):(ndCells n).set (3+c) (.bool v)=ndCells { n with set:=fun k=>if k=c then v else n.set k }:=by
 apply List.ext_getElem?
 intro i
 rw [List.getElem?_set,ndCells_len]
 unfold ndCells
 rcases i with _|_|_|i
 ·first|(simp;done)|(simp;omega)
 ·first|(simp;done)|(simp;omega)
 ·first|(simp;done)|(simp;omega)
 ·by_cases hi:i < 256
  ·by_cases e:i=c
   ·subst e;rw [if_pos (by omega),if_pos (by omega)];simp [List.getElem?_append,hi]
   ·rw [if_neg (by omega)];simp [List.getElem?_append,hi,e]
  ·rw [if_neg (by omega)];simp [List.getElem?_append,hi]
theorem ndArr_set (n:Sp.Nd) (c:Nat) (hc:c < 256) (v:Bool):(ndArr n).setIfInBounds (3+c) (.bool v)=ndArr { n with set:=fun k=>if k=c then v else n.set k }:=by
 unfold ndArr;rw [← ndCells_set n c hc v];simp
theorem ndArr_get (n:Sp.Nd) (c:Nat) (hc:c < 256):(ndArr n)[3+c]?=some (.bool (n.set c)):=by
 unfold ndArr ndCells
 rw [List.getElem?_toArray,Nat.add_comm 3 c]
 show (List.map _ _++_)[c]?=_
 simp [List.getElem?_append,hc]
theorem ndArr_congr {n m:Sp.Nd} (h1:n.kind=m.kind) (h2:n.a=m.a) (h3:n.b=m.b) (h4:∀ c,c < 256→n.set c=m.set c) (h5:n.num=m.num):ndArr n=ndArr m:=by
 unfold ndArr ndCells
 rw [h1,h2,h3,h5]
 have:(List.range 256).map (fun c=>Value.bool (n.set c))=(List.range 256).map (fun c=>Value.bool (m.set c)):=List.map_congr_left (fun c hc=>by rw [h4 c (by simpa using hc)])
 rw [this]
theorem ndArr_a (n:Sp.Nd) (x:Int):(ndArr n).setIfInBounds 1 (.int .i64 x)=ndArr { n with a:=x }:=rfl
theorem set_last (x y z u v:Value) (l:List Value) (n:Nat) (hn:n=l.length+3):(x::y::z::(l++[u])).set n v=x::y::z::(l++[v]):=by
 subst hn;simp
theorem ndArr_num (n:Sp.Nd) (x:Int):(ndArr n).setIfInBounds 259 (.int .i64 x)=ndArr { n with num:=x }:=by
 have h:=set_last (.int .i64 n.kind) (.int .i64 n.a) (.int .i64 n.b) (.int .i64 n.num) (.int .i64 x) ((List.range 256).map (fun c=>Value.bool (n.set c))) 259 (by rw [List.length_map,List.length_range])
 have h2:(ndCells n).set 259 (.int .i64 x)=ndCells { n with num:=x }:=h
 unfold ndArr
 rw [← h2]
 generalize ndCells n=l
 simp
def NdAt (w:World) (b:Nat) (n:Sp.Nd):Prop:=w.heap[b]?=some (.cells (ndArr n) 129 (0,0))
theorem NdAt.node {w:World} {b:Nat} {n:Sp.Nd} (h:NdAt w b n):nodeOf w b=ndArr n:=by unfold nodeOf;rw [h]
theorem NdAt.ok {w:World} {b:Nat} {n:Sp.Nd} (h:NdAt w b n):nodeOK w b=true:=by unfold nodeOK;rw [h];simp [ndArr_size]
theorem NdAt.load {w:World} {b:Nat} {n:Sp.Nd} (h:NdAt w b n) (k:Nat):(bigLoad (.pointer (some ⟨b,0,none⟩))).run Tryz.prog (w.drewN k)=.ok (.agg (ndArr n)) (w.drewN k):=by
 rw [run_bigLoad _ _ (by rw [nodeOK_drewN];exact h.ok),nodeOf_drewN,h.node]
theorem NdAt.load0 {w:World} {b:Nat} {n:Sp.Nd} (h:NdAt w b n):(bigLoad (.pointer (some ⟨b,0,none⟩))).run Tryz.prog w=.ok (.agg (ndArr n)) w:=h.load 0
theorem NdAt.setC {w:World} {b:Nat} {n:Sp.Nd} (h:NdAt w b n) (c:Nat) (hc:c < 256) (v:Bool):NdAt (w.setCell ⟨b,3+c,none⟩ (.bool v)) b { n with set:=fun k=>if k=c then v else n.set k }:=by
 have:=heap_set h (3+c) (.bool v);rw [ndArr_set n c hc v] at this;exact this
theorem NdAt.setA {w:World} {b:Nat} {n:Sp.Nd} (h:NdAt w b n) (x:Int):NdAt (w.setCell ⟨b,1,none⟩ (.int .i64 x)) b { n with a:=x }:=by
 have:=heap_set h 1 (.int .i64 x);rw [ndArr_a n x] at this;exact this
theorem NdAt.setNum {w:World} {b:Nat} {n:Sp.Nd} (h:NdAt w b n) (x:Int):NdAt (w.setCell ⟨b,259,none⟩ (.int .i64 x)) b { n with num:=x }:=by
 have:=heap_set h 259 (.int .i64 x);rw [ndArr_num n x] at this;exact this
theorem NdAt.cellC {w:World} {b:Nat} {n:Sp.Nd} (h:NdAt w b n) (c:Nat) (hc:c < 256):w.cell? ⟨b,3+c,none⟩=some (.bool (n.set c)):=by
 have:=ndArr_get n c hc
 simp [World.cell?,show w.heap[b]?=_ from h,this]
theorem NdAt.fz {w:World} {b:Nat} {n:Sp.Nd} (h:NdAt w b n) (o:Nat):w.frozen? ⟨b,o,none⟩=false:=by simp [World.frozen?,show w.heap[b]?=_ from h]
theorem NdAt.new (w:World) (n:Sp.Nd):NdAt (w.alloc (.cells (ndArr n) 129)) w.heap.size n:=by show (w.heap.push _)[w.heap.size]?=_;simp
theorem NdAt.lt {w:World} {b:Nat} {n:Sp.Nd} (h:NdAt w b n):b < w.heap.size:=lt_of_heap h
end Go.Proofs.YtcpfpnjkfahjcaaGreat
