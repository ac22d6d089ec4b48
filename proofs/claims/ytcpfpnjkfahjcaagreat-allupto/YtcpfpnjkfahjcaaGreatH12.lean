import Derived.Test.YtcpfpnjkfahjcaaGreatH11
import Derived.RegionTactic
set_option linter.unusedSimpArgs false
set_option linter.unusedVariables false
namespace Go.Proofs.YtcpfpnjkfahjcaaGreat
open Go.RowKit
attribute [local go_sem ↓] lookup_is
attribute [local go_sem ↓] update_is
set_option maxHeartbeats 1600000 in
theorem mAsk_any {R:Spot→(Nat→Bool)→Prop} (s:Nat) (x:Spot) (m:Option Nat) (w:World) (hx:IsNd w x.n) (h:MemoAt w (.map m) R) (c:w.cell? ⟨s,8,none⟩=some (.map m)) (fz:w.frozen? ⟨s,8,none⟩=false) (hs:s < w.heap.size) :
  Calls Tryz.prog 73 #[.pointer (some ⟨s,8,none⟩),spotV x] w fun e w'=>(∃ f ok,e=.returned (.tuple #[plV f,.bool ok])∧(ok=true→R x f))∧Upd [] w w':=by
 obtain⟨f,ok,h1,h2⟩:=lookup_spot x w hx (.map m) h
 have H2:Hid (ok=true→R x f):=h2
 clear h2
 have e1:=h1 ((w.alloc (.cells #[.pointer (some ⟨x.n,0,none⟩),.int .i64 x.d,.int .i64 x.f] 140)).alloc (.cells #[.int .u64 0,.int .u64 0] 137)).drew ((Ext.alloc (Ext.alloc (Ext.refl w) (Nat.le_refl _) _) (by rw [alloc_size];omega) _)).drew
 have e2:=h1 (((w.alloc (.cells #[.pointer (some ⟨x.n,0,none⟩),.int .i64 x.d,.int .i64 x.f] 140)).alloc (.cells #[.int .u64 0,.int .u64 0] 137)).alloc (.cells #[.int .u64 0,.int .u64 0] 137)).drew (Ext.alloc (Ext.alloc (Ext.alloc (Ext.refl w) (Nat.le_refl _) _) (by rw [alloc_size];omega) _) (by rw [alloc_size,alloc_size];omega) _).drew
 have s1:s < w.heap.size+1:=by omega
 have s2:s < w.heap.size+1+1:=by omega
 have s3:s < w.heap.size+2:=by omega
 clear h1 h
 unfold plV plCells spotV at *
 go_enter Tryz.func73,Tryz.ntmps73
 go_wp2_with fail
 go_region
 all_goals go_wp2_with fail
 all_goals
  refine bodyPost_ret (v:=.tuple #[.agg #[.int .u64 (word f 0 64),.int .u64 (word f 64 64)],.bool ok]) (by simp [results,Tryz.results73,go_sem]) rfl ?_
  exact⟨⟨f,ok,rfl,H2.out⟩,by (repeat (first|exact Upd.refl _ _|refine Upd.drewN ?_|refine Upd.drew ?_|refine Upd.setCell ?_ (by simp) _|refine Upd.alloc ?_ _))⟩
def srCells (t:ByteArray) (m:Option Nat):Array Value:=#[.string t,.func (.func 66) #[] #[],.func (.func 67) #[] #[],.func (.func 68) #[] #[],.func (.func 69) #[] #[],.func (.func 70) #[] #[],.func (.func 71) #[] #[],.func (.func 72) #[] #[],.map m]
def SrAt (w:World) (s:Nat) (t:ByteArray) (m:Option Nat):Prop:=w.heap[s]?=some (.cells (srCells t m) 161 (0,0))
structure SrFacts (w:World) (s:Nat) (t:ByteArray) (m:Option Nat):Prop where
 c0:w.cell? ⟨s,0,none⟩=some (.string t)
 c1:w.cell? ⟨s,1,none⟩=some (.func (.func 66) #[] #[])
 c2:w.cell? ⟨s,2,none⟩=some (.func (.func 67) #[] #[])
 c3:w.cell? ⟨s,3,none⟩=some (.func (.func 68) #[] #[])
 c4:w.cell? ⟨s,4,none⟩=some (.func (.func 69) #[] #[])
 c5:w.cell? ⟨s,5,none⟩=some (.func (.func 70) #[] #[])
 c6:w.cell? ⟨s,6,none⟩=some (.func (.func 71) #[] #[])
 c7:w.cell? ⟨s,7,none⟩=some (.func (.func 72) #[] #[])
 c8:w.cell? ⟨s,8,none⟩=some (.map m)
 fz:∀ o,w.frozen? ⟨s,o,none⟩=false
theorem SrAt.facts {w:World} {s:Nat} {t:ByteArray} {m:Option Nat} (h:SrAt w s t m):SrFacts w s t m:=by
 unfold SrAt srCells at h
 refine⟨?_,?_,?_,?_,?_,?_,?_,?_,?_,?_⟩<;>(try intro o)<;>simp [World.cell?,World.frozen?,h]
def MemoIn (w:World) (s:Nat) (m:Option Nat) (R:Spot→(Nat→Bool)→Prop):Prop:=∀ b,m=some b→s < b∧∃ es ck,w.heap[b]?=some (.map es ck)∧∀ e∈es.toList,EntAt w R e
theorem MemoIn.at {w:World} {s:Nat} {m:Option Nat} {R:Spot→(Nat→Bool)→Prop} (h:MemoIn w s m R):MemoAt w (.map m) R:=by
 cases m with
 | none=>exact Or.inl rfl
 | some b=>obtain⟨_,es,ck,h1,h2⟩:=h b rfl;exact Or.inr ⟨b,es,ck,rfl,h1,h2⟩
def Srch (w:World) (s:Nat) (t:ByteArray) (R:Spot→(Nat→Bool)→Prop):Prop:=∃ m,SrAt w s t m∧MemoIn w s m R
def Kept (s:Nat) (w:World) (k:Nat):Prop:=k < w.heap.size∧k≠s∧(s < k→∀ es ck,w.heap[k]?≠some (.map es ck))
structure Gone (s:Nat) (w w':World):Prop where
 os:w'.os=w.os
 tape:w'.tape=w.tape
 output:w'.output=w.output
 size:w.heap.size≤w'.heap.size
 block:∀ k,Kept s w k→w'.heap[k]?=w.heap[k]?
theorem Gone.refl (s:Nat) (w:World):Gone s w w:=⟨rfl,rfl,rfl,Nat.le_refl _,fun _ _=>rfl⟩
theorem Gone.kept {s:Nat} {w w':World} (h:Gone s w w') {k:Nat} (q:Kept s w k):Kept s w' k:=
 ⟨Nat.lt_of_lt_of_le q.1 h.size,q.2.1,fun hk es ck e=>q.2.2 hk es ck ((h.block k q).symm.trans e)⟩
theorem Gone.trans {s:Nat} {a b c:World} (h:Gone s a b) (k:Gone s b c):Gone s a c:=
 ⟨k.os.trans h.os,k.tape.trans h.tape,k.output.trans h.output,Nat.le_trans h.size k.size,fun i hi=>(k.block i (h.kept hi)).trans (h.block i hi)⟩
theorem Upd.gone {s:Nat} {l:List Nat} {w w':World} (h:Upd l w w') (hl:∀ k,k∈l→¬ Kept s w k):Gone s w w':=
 ⟨h.os,h.tape,h.output,h.size,fun k hk=>h.block k hk.1 (fun q=>hl k q hk)⟩
theorem Gone.hide {s:Nat} {l:List Nat} {a b c:World} (h:Gone s a b) (k:Upd l b c) (hl:∀ q,q∈l→a.heap.size≤q):Gone s a c:=
 ⟨k.os.trans h.os,k.tape.trans h.tape,k.output.trans h.output,Nat.le_trans h.size k.size,fun i hi=>(k.block i (Nat.lt_of_lt_of_le hi.1 h.size) (fun q=>by have:=hl i q;have:=hi.1;omega)).trans (h.block i hi)⟩
theorem IsNd.kept {s:Nat} {w:World} {n:Nat} (h:IsNd w n) (hn:n≠s):Kept s w n:=by
 obtain⟨c,t,h⟩:=h
 exact⟨lt_of_heap h,hn,fun _ es ck q=>by rw [h] at q;cases q⟩
theorem EntAt.grow {w w':World} {R:Spot→(Nat→Bool)→Prop} {e:MapEntry} (h:EntAt w R e) (hn:∀ n,IsNd w n→IsNd w' n):EntAt w' R e:=by
 obtain⟨y,f,h1,h2,h3,h4⟩:=h;exact⟨y,f,h1,h2,hn _ h3,h4⟩
theorem Srch.upd {w w':World} {s:Nat} {t:ByteArray} {R:Spot→(Nat→Bool)→Prop} (h:Srch w s t R) {l:List Nat} (u:Upd l w w') (hn:∀ n,IsNd w n→IsNd w' n) (hs:s∉l) (hl:∀ q,q∈l→q < w.heap.size→∀ es ck,w.heap[q]?≠some (.map es ck)):Srch w' s t R:=by
 obtain⟨m,h1,h2⟩:=h
 refine⟨m,(u.block s (lt_of_heap h1) hs).trans h1,fun b hb=>?_⟩
 obtain⟨h3,es,ck,h4,h5⟩:=h2 b hb
 exact⟨h3,es,ck,(u.block b (lt_of_heap h4) (fun q=>hl b q (lt_of_heap h4) es ck h4)).trans h4,fun e he=>(h5 e he).grow hn⟩
theorem mNew_any (t:ByteArray) (w:World) (R:Spot→(Nat→Bool)→Prop) :
  Calls Tryz.prog 50 #[.string t] w fun e w'=>e=.returned (ptr w.heap.size)∧Upd [] w w'∧Srch w' w.heap.size t R:=by
 go_enter Tryz.func50,Tryz.ntmps50
 go_wp2_with fail
 go_ret
 refine⟨rfl,by (repeat (first|exact Upd.refl _ _|refine Upd.drewN ?_|refine Upd.drew ?_|refine Upd.setCell ?_ (by simp) _|refine Upd.alloc ?_ _)),none,?_,fun b hb=>by cases hb⟩
 show (w.heap.push _)[w.heap.size]?=_;simp [srCells]
theorem isNd_set {w:World} {b:Nat} {es:Array MapEntry} {ck:Nat} (hb:w.heap[b]?=some (.map es ck)) (o:Obj) {n:Nat} (h:IsNd w n):IsNd { w with heap:=w.heap.setIfInBounds b o } n:=by
 obtain⟨c,t,h⟩:=h
 refine⟨c,t,?_⟩
 show (w.heap.setIfInBounds b o)[n]?=_
 rw [Array.getElem?_setIfInBounds_ne]
 ·exact h
 ·intro q;subst q;rw [hb] at h;cases h
theorem keep_step {R:Spot→(Nat→Bool)→Prop} (s:Nat) (t:ByteArray) (x:Spot) (f:Nat→Bool) (w:World) (hx:IsNd w x.n) (b:Nat) (es:Array MapEntry) (ck:Nat) (h:SrAt w s t (some b)) (hsb:s < b) (hb:w.heap[b]?=some (.map es ck)) (he:∀ e∈es.toList,EntAt w R e) (hR:R x f) :
  ∃ w2,(updOp (.map (some b)) (spotV x) (plV f)).run Tryz.prog w=.ok () w2∧Gone s w w2∧Srch w2 s t R:=by
 obtain⟨es',ck',h1,h2⟩:=update_spot x f w hx b es ck hb he hR
 refine⟨_,h1,⟨rfl,rfl,rfl,by simp,?_⟩,some b,?_,?_⟩
 ·intro k hk
  show (w.heap.setIfInBounds b _)[k]?=_
  rw [Array.getElem?_setIfInBounds_ne]
  intro q;subst q;exact hk.2.2 hsb es ck hb
 ·show (w.heap.setIfInBounds b _)[s]?=_
  rw [Array.getElem?_setIfInBounds_ne (by omega)]
  exact h
 ·intro b' hb'
  cases hb'
  refine⟨hsb,es',ck',?_,fun e q=>(h2 e q).grow (fun n hn=>isNd_set hb _ hn)⟩
  show (w.heap.setIfInBounds b _)[b]?=_
  rw [Array.getElem?_setIfInBounds_self_of_lt (lt_of_heap hb)]
theorem heap_new {w:World} {o:Obj} {p:Nat} (hp:p=w.heap.size):(w.alloc o).heap[p]?=some o:=by
 subst hp;show (w.heap.push _)[w.heap.size]?=_;simp
theorem updW {l:List Nat} {w w':World} (u:Upd l w w') {n:Nat} (h:IsNd w n) (hn:n∉l):IsNd w' n:=by
 obtain⟨c,t,h⟩:=h;exact⟨c,t,(u.block n (lt_of_heap h) hn).trans h⟩
set_option maxHeartbeats 1600000 in
theorem mKeep_none {R:Spot→(Nat→Bool)→Prop} (s:Nat) (t:ByteArray) (x:Spot) (f:Nat→Bool) (w:World) (hx:IsNd w x.n) (hxs:x.n≠s) (h:SrAt w s t none) (hR:R x f) :
  Calls Tryz.prog 74 #[.pointer (some ⟨s,8,none⟩),spotV x,plV f] w fun e w'=>e=.returned (.tuple #[])∧Gone s w w'∧Srch w' s t R:=by
 obtain⟨c0,c1,c2,c3,c4,c5,c6,c7,c8,fz⟩:=h.facts
 have hs:=lt_of_heap h
 have s1:s < w.heap.size+1:=by omega
 have s2:s < w.heap.size+1+1:=by omega
 have qn:∀ w',(binOp .eql 157 (.map none) (.map none)).run Tryz.prog w'=.ok (.bool true) w':=fun w'=>run_eql_map_nil w' 157 140 137 none Tryz.underlying157
 have qm:∀ w',(Instr.makeMap 157 none).run Tryz.prog w'=.ok (.map (some w'.heap.size)) (w'.alloc (.map #[] 0)):=fun w'=>by
  simp [Instr.makeMap,run_underlying Tryz.underlying157]
 obtain⟨w2,e2,g2,r2⟩:∃ w2,(updOp (.map (some (w.heap.size+1+1))) (spotV x) (plV f)).run Tryz.prog ((((w.setCell ⟨s,8,none⟩ (.map (some (w.heap.size+1+1)))).alloc (.cells #[.pointer (some ⟨x.n,0,none⟩),.int .i64 x.d,.int .i64 x.f] 140)).alloc (.cells #[.int .u64 (word f 0 64),.int .u64 (word f 64 64)] 137)).alloc (.map #[] 0)).drew=.ok () w2∧Hid (Gone s w w2)∧Hid (Srch w2 s t R):=by
  have u:Upd [s] w ((((w.setCell ⟨s,8,none⟩ (.map (some (w.heap.size+1+1)))).alloc (.cells #[.pointer (some ⟨x.n,0,none⟩),.int .i64 x.d,.int .i64 x.f] 140)).alloc (.cells #[.int .u64 (word f 0 64),.int .u64 (word f 64 64)] 137)).alloc (.map #[] 0)).drew:=by (repeat (first|exact Upd.refl _ _|refine Upd.drewN ?_|refine Upd.drew ?_|refine Upd.setCell ?_ (by simp) _|refine Upd.alloc ?_ _))
  have hz:((((w.setCell ⟨s,8,none⟩ (.map (some (w.heap.size+1+1)))).alloc (.cells #[.pointer (some ⟨x.n,0,none⟩),.int .i64 x.d,.int .i64 x.f] 140)).alloc (.cells #[.int .u64 (word f 0 64),.int .u64 (word f 64 64)] 137)).alloc (.map #[] 0)).drew.heap[w.heap.size+1+1]?=some (.map #[] 0):=by
   exact heap_new (by simp)
  have h':=heap_set h 8 (.map (some (w.heap.size+1+1)))
  have hs':SrAt ((((w.setCell ⟨s,8,none⟩ (.map (some (w.heap.size+1+1)))).alloc (.cells #[.pointer (some ⟨x.n,0,none⟩),.int .i64 x.d,.int .i64 x.f] 140)).alloc (.cells #[.int .u64 (word f 0 64),.int .u64 (word f 64 64)] 137)).alloc (.map #[] 0)).drew s t (some (w.heap.size+1+1)):=by
   show ((((w.setCell _ _).alloc _).alloc _).alloc _).heap[s]?=_
   rw [Below.heap_alloc _ _ _ (by simp;omega),Below.heap_alloc _ _ _ (by simp;omega),Below.heap_alloc _ _ _ (by simp;omega)]
   exact h'
  obtain⟨w2,e2,g2,r2⟩:=keep_step (R:=R) s t x f _ (updW u hx (by simp [hxs])) (w.heap.size+1+1) #[] 0 hs' (by omega) hz (by simp) hR
  exact⟨w2,e2,(u.gone (fun k hk q=>q.2.1 (by simpa using hk))).trans g2,r2⟩
 clear h hx
 unfold plV plCells spotV at *
 go_enter Tryz.func74,Tryz.ntmps74
 go_wp2_with fail
 go_region
 go_wp2_with fail
 go_end0
 exact⟨rfl,g2.out,r2.out⟩
set_option maxHeartbeats 1600000 in
theorem mKeep_some {R:Spot→(Nat→Bool)→Prop} (s:Nat) (t:ByteArray) (x:Spot) (f:Nat→Bool) (w:World) (b:Nat) (hx:IsNd w x.n) (h:SrAt w s t (some b)) (hm:MemoIn w s (some b) R) (hR:R x f) :
  Calls Tryz.prog 74 #[.pointer (some ⟨s,8,none⟩),spotV x,plV f] w fun e w'=>e=.returned (.tuple #[])∧Gone s w w'∧Srch w' s t R:=by
 obtain⟨c0,c1,c2,c3,c4,c5,c6,c7,c8,fz⟩:=h.facts
 have hs:=lt_of_heap h
 have s1:s < w.heap.size+1:=by omega
 have s2:s < w.heap.size+1+1:=by omega
 have qn:∀ w',(binOp .eql 157 (.map (some b)) (.map none)).run Tryz.prog w'=.ok (.bool false) w':=fun w'=>run_eql_map_nil w' 157 140 137 (some b) Tryz.underlying157
 obtain⟨w2,e2,g2,r2⟩:∃ w2,(updOp (.map (some b)) (spotV x) (plV f)).run Tryz.prog ((w.alloc (.cells #[.pointer (some ⟨x.n,0,none⟩),.int .i64 x.d,.int .i64 x.f] 140)).alloc (.cells #[.int .u64 (word f 0 64),.int .u64 (word f 64 64)] 137)).drew=.ok () w2∧Hid (Gone s w w2)∧Hid (Srch w2 s t R):=by
  obtain⟨hsb,es,ck,hb,he⟩:=hm b rfl
  have u:Upd [] w ((w.alloc (.cells #[.pointer (some ⟨x.n,0,none⟩),.int .i64 x.d,.int .i64 x.f] 140)).alloc (.cells #[.int .u64 (word f 0 64),.int .u64 (word f 64 64)] 137)).drew:=by (repeat (first|exact Upd.refl _ _|refine Upd.drewN ?_|refine Upd.drew ?_|refine Upd.setCell ?_ (by simp) _|refine Upd.alloc ?_ _))
  obtain⟨w2,e2,g2,r2⟩:=keep_step (R:=R) s t x f _ (updW u hx (by simp)) b es ck ((u.block s hs (by simp)).trans h) hsb ((u.block b (lt_of_heap hb) (by simp)).trans hb) (fun e q=>(he e q).grow (fun n hn=>updW u hn (by simp))) hR
  exact⟨w2,e2,(u.gone (fun k hk=>by cases hk)).trans g2,r2⟩
 clear h hx hm
 unfold plV plCells spotV at *
 go_enter Tryz.func74,Tryz.ntmps74
 go_wp2_with fail
 go_region
 go_wp2_with fail
 go_end0
 exact⟨rfl,g2.out,r2.out⟩
theorem mKeep_any {R:Spot→(Nat→Bool)→Prop} (s:Nat) (t:ByteArray) (x:Spot) (f:Nat→Bool) (w:World) (hx:IsNd w x.n) (hxs:x.n≠s) (h:Srch w s t R) (hR:R x f) :
  Calls Tryz.prog 74 #[.pointer (some ⟨s,8,none⟩),spotV x,plV f] w fun e w'=>e=.returned (.tuple #[])∧Gone s w w'∧Srch w' s t R:=by
 obtain⟨m,h1,h2⟩:=h
 cases m with
 | none=>exact mKeep_none s t x f w hx hxs h1 hR
 | some b=>exact mKeep_some s t x f w b hx h1 h2 hR
theorem mAskS_any {R:Spot→(Nat→Bool)→Prop} (s:Nat) (t:ByteArray) (x:Spot) (w:World) (hx:IsNd w x.n) (h:Srch w s t R) :
  Calls Tryz.prog 73 #[.pointer (some ⟨s,8,none⟩),spotV x] w fun e w'=>(∃ f ok,e=.returned (.tuple #[plV f,.bool ok])∧(ok=true→R x f))∧Upd [] w w':=by
 obtain⟨m,h1,h2⟩:=h
 exact mAsk_any s x m w hx h2.at h1.facts.c8 (h1.facts.fz _) (lt_of_heap h1)
end Go.Proofs.YtcpfpnjkfahjcaaGreat
