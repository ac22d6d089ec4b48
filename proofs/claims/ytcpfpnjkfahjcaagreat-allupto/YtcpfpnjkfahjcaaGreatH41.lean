import Derived.Test.YtcpfpnjkfahjcaaGreatH40
import Derived.Laws.BytesArg
import Derived.Shelf.Bytes.IndexByte
import Derived.Test.YtcpfpnjkfahjcaaGreatRows
import Derived.Deep.RegionLaw
import Derived.Maps.AppendAt
set_option linter.unusedSimpArgs false
set_option linter.unusedVariables false
namespace Go.Proofs.YtcpfpnjkfahjcaaGreat
open Go.RowKit
theorem Sp.str_size (l:List UInt8):(str l).size=l.length:=by simp [str,ByteArray.size]
theorem Sp.str_of (s:ByteArray):str s.data.toList=s:=by cases s;simp [str]
theorem spans_in (t:Tr) (s:ByteArray) (k c:Nat) (h:(Sp.sem s t).m 0 k=true):Sp.spansOf ((Sp.sem s t).g 0 k) k c=(-1,-1)∨(0≤(Sp.spansOf ((Sp.sem s t).g 0 k) k c).1∧(Sp.spansOf ((Sp.sem s t).g 0 k) k c).1≤(Sp.spansOf ((Sp.sem s t).g 0 k) k c).2∧(Sp.spansOf ((Sp.sem s t).g 0 k) k c).2≤k):=by
 unfold Sp.spansOf
 rcases Sp.puts_is c ((0,0,k)::(Sp.sem s t).g 0 k) with q|⟨x,h1,h2,h3⟩
 ·exact Or.inl q
 ·right
  rw [h3]
  rcases List.mem_cons.mp h1 with q|q
  ·subst q;simp
  ·have:=Sp.sem_in s t 0 k h x q
   simp;omega
theorem wholeS_some {t:Tr} {s:ByteArray} {f:Nat→Int×Int} (h:wholeS t s=some f):(Sp.sem s t).m 0 s.size=true∧f=Sp.spansOf ((Sp.sem s t).g 0 s.size) s.size:=by
 unfold wholeS at h
 split at h
 ·rename_i q;cases h;exact⟨q,rfl⟩
 ·cases h
theorem wholeS_bd {t:Tr} {s:ByteArray} (hs:s.size≤1000) {f:Nat→Int×Int} (h:wholeS t s=some f):∀ k,-1≤(f k).1∧(f k).1≤1000∧-1≤(f k).2∧(f k).2≤1000:=by
 obtain⟨hm,rfl⟩:=wholeS_some h
 intro k
 rcases spans_in t s s.size k hm with q|q
 ·rw [q];simp
 ·omega
end Go.Proofs.YtcpfpnjkfahjcaaGreat
/- The library's bytes.IndexByte,by the shelf's contract,at this program's numbers. -/
namespace Go.Proofs.YtcpfpnjkfahjcaaGreat
open Go.RowKit Go.Shelf
def ren187:Go.Shelf.Ren:=⟨fun|187=>79|255=>101|n=>n,fun|37=>97|5=>5|3=>3|n=>n,fun|n=>n⟩
theorem lays187:Go.Proofs.Lays.n187 Tryz.prog ren187:={
 mixed:=by kernel_rfl
 f187:=Tryz.func79.trans (congrArg some (by kernel_rfl))
 f255:=Tryz.func101.trans (congrArg some (by kernel_rfl))
 t3:=Tryz.underlying3
 a3:=Tryz.isAgg3
 z3:=Tryz.sizeOf3
 v3:=Tryz.zeroValue3
 t5:=Tryz.underlying5
 a5:=Tryz.isAgg5
 z5:=Tryz.sizeOf5
 v5:=Tryz.zeroValue5
 t37:=Tryz.underlying97
 a37:=Tryz.isAgg97
 z37:=Tryz.sizeOf97
 v37:=Tryz.zeroValue97 }
def atNl (K:List UInt8):Int:=Lib.indexByte K 10
theorem bytes_nums (K:List UInt8):Lib.bytesOf (K.map fun x=>(x.toNat:Int))=K:=by
 unfold Lib.bytesOf
 rw [List.map_map]
 conv=>rhs;rw [← List.map_id K]
 refine List.map_congr_left fun x _=>?_
 simp
theorem indexNl_any (b off m cp:Nat) (K:List UInt8) (w:World) (hK:K.length=m) (hB:∀ j x,K[j]?=some x→w.cell? ⟨b,off+j,none⟩=some (.int .u8 x.toNat)) :
  Calls Tryz.prog 79 #[.slice (some ⟨b,off,none⟩) m cp,.int .u8 10] w fun e w'=>e=.returned (.int .i64 (atNl K))∧w'=w:=by
 have:=Any.bytes_IndexByte lays187 b off m cp (K.map fun x=>(x.toNat:Int)) 10 w (by simp [hK]) (fun i hi=>by
  have hx:K[i]?=some K[i]:=List.getElem?_eq_getElem (by omega)
  rw [hB i _ hx]
  simp [List.getD_eq_getElem?_getD,List.getElem?_map,hx])
 rw [bytes_nums] at this
 exact this
theorem atNl_spec:∀ (K:List UInt8),(atNl K=-1∧∀ x∈K,x≠10)∨∃ A M,K=A++10::M∧(∀ x∈A,x≠10)∧atNl K=A.length
 | []=>Or.inl ⟨rfl,by simp⟩
 | x::K=>by
  by_cases hx:x=10
  ·subst hx
   exact Or.inr ⟨[],K,rfl,by simp,rfl⟩
  ·have hx':(x == 10)=false:=by simpa using hx
   rcases atNl_spec K with ⟨h1,h2⟩|⟨A,M,h1,h2,h3⟩
   ·left
    refine⟨?_,fun y hy=>?_⟩
    ·show Lib.indexByte (x::K) 10=-1
     rw [Lib.indexByte,hx']
     have:Lib.indexByte K 10=-1:=h1
     simp [this]
    ·rcases List.mem_cons.mp hy with rfl|q
     ·exact hx
     ·exact h2 y q
   ·right
    refine⟨x::A,M,by rw [h1];rfl,fun y hy=>?_,?_⟩
    ·rcases List.mem_cons.mp hy with rfl|q
     ·exact hx
     ·exact h2 y q
    ·show Lib.indexByte (x::K) 10=_
     rw [Lib.indexByte,hx']
     have h4:Lib.indexByte K 10=A.length:=h3
     rw [h4]
     have:((A.length:Int) == -1)=false:=by simp
     simp [this]
def fnV (p:Nat):Value:=.func (.func 26) #[.pointer (some ⟨p,0,none⟩)] #[]
def byteV (x:UInt8):Value:=.int .u8 x.toNat
structure CuAt (w:World) (c p lim num from_ len:Nat) (v:Value) (L:List UInt8):Prop where
 cell:w.heap[c]?=some (.cells #[.int .i64 lim,fnV p,.int .i64 num,.int .i64 from_,.int .i64 len,v] 147)
 held:w.ownsRow 0 5 1 v L.length (L.map byteV)
theorem pInfoU8:∃ i,Tryz.prog.info? 5=some i∧i.zero=some (.int .u8 0)∧i.size=1∧i.bytes=1:=by
 have h:(Tryz.prog.info? 5).map (fun i=>(i.zero,i.size,i.bytes))=some (some (.int .u8 0),1,1):=by kernel_rfl
 cases hi:Tryz.prog.info? 5 with
 | none=>rw [hi] at h;cases h
 | some i=>
  rw [hi] at h
  simp only [Option.map_some,Option.some.injEq,Prod.mk.injEq] at h
  exact⟨i,rfl,h.1,h.2.1,h.2.2⟩
theorem mkBytes (m:Nat) (hm:m≤100) (w:World):(Instr.makeSlice 97 (.int .i64 0) (.int .i64 (m:Int))).run Tryz.prog w=.ok (.slice (some ⟨w.heap.size,0,none⟩) 0 m) (w.alloc (.cells (madeCells #[.int .u8 0] m) 5)):=by
 obtain⟨i,h1,h2,h3,h4⟩:=pInfoU8
 have:=run_make w 97 5 i _ Tryz.underlying97 h1 h2 .i64 .i64 0 (m:Int) (by omega) (by omega) (by rw [h4];omega) (by omega)
 rw [this,h3]
 simp
 rfl
set_option maxRecDepth 8000 in
set_option maxHeartbeats 800000 in
theorem cuNew_any (p n:Nat) (w:World) (hn:n≤100):Calls Tryz.prog 34 #[.int .i64 n,.func (.func 26) #[.pointer (some ⟨p,0,none⟩)] #[]] w fun e w'=>e=.returned (.pointer (some ⟨w.heap.size+1,0,none⟩))∧CuAt w' (w.heap.size+1) p n 0 0 0 (.slice (some ⟨w.heap.size,0,none⟩) 0 n) []∧Upd [] w w':=by
 have hmk:=mkBytes n hn
 generalize hz:madeCells #[Value.int .u8 0] n=Z at *
 have HZ:Hid (Z.size=n):=by show _=_;rw [← hz];exact size_madeCells _ _
 clear hz
 go_enter Tryz.func34,Tryz.ntmps34
 go_wp2_with fail
 go_ret
 refine⟨rfl,⟨heap_new (by show w.heap.size+1=(w.heap.push _).size;simp),⟨rfl,Or.inr ⟨w.heap.size,n,Z,rfl,Nat.zero_le _,(Below.heap_alloc _ _ _ (by show w.heap.size < (w.heap.push _).size;simp)).trans (heap_new rfl),Nat.zero_le _,by show n≤maxLen;unfold maxLen;omega,by rw [HZ.out];simp,by simp⟩⟩⟩,by (repeat (first|exact Upd.refl _ _|refine Upd.drewN ?_|refine Upd.drew ?_|refine Upd.setCell ?_ (by simp) _|refine Upd.alloc ?_ _))⟩
def StAt (w:World) (s c:Nat):Prop:=w.heap[s]?=some (.cells #[.pointer (some ⟨c,0,none⟩)] 103)
theorem CuAt.blocks {w w':World} {c p lim num from_ len:Nat} {v:Value} {L:List UInt8} (h:CuAt w c p lim num from_ len v L) (hc:w'.heap[c]?=w.heap[c]?) (hv:∀ k,v.ownBlock=some k→w'.heap[k]?=w.heap[k]?):CuAt w' c p lim num from_ len v L:=
 ⟨hc.trans h.cell,ownsRow_same h.held (fun k hk _=>hv k hk)⟩
section
variable {P:Program}
theorem step_row {ops:Array Oper} {o:Oper} {a:Act} {w:World} {K:Act→World→Prop} {Q:Exit→Act→World→Prop} {E:Prop} (hgd:o.guard=none) (s x:Operand) (t:TypeId)
  (ho:o.op=.call { callee:=.builtin .append,args:=#[s,x],argTypes:=#[t,t] })
  (base:Nat) (e:TypeId) (i:TypeInfo) (z:Value) (size bytes:Nat) (ht:P.underlying t=some (.slice e)) (hi:P.info? e=some i) (hz:i.zero=some z)
  (hsize:i.size=size) (hby:i.bytes=bytes) (hzs:z.cells.size=size) (hsz:0 < size)
  (v:Value) (n:Nat) (xs:List Value) (hs:a.eval s=v) (hown:w.ownsRow base e size v n xs)
  (ad:Addr) (m c:Nat) (news:List Value) (hx:a.eval x=.slice (some ad) m c) (hl:news.length=m * size) (hnews:∀ j u,news[j]?=some u→w.cell? (ad.add j)=some u) (h1:∀ u∈news,u.oneCell'=true)
  (h63:n+m≤maxLen) (hbytes:(n+m) * bytes≤140737488355328) (hbase:base≤w.heap.size)
  (h:∀ v' w',w'.ownsRow base e size v' (n+m) (xs++news)→w.grownBy w' v.ownBlock→(v'=.slice none 0 0↔v=.slice none 0 0∧m=0)→(v'.ownBlock=v.ownBlock∨v'.ownBlock=some w.heap.size)→K (a.put o.dst v') w') :
  if Region.wanted o (yielded ops a.tmps)=true then Oper.wp P o a w K Q else E:=by
 have hw:Region.wanted o (yielded ops a.tmps)=true:=by simp [Region.wanted,hgd]
 rw [if_pos hw]
 obtain⟨v',w',hr,h2,h3,h4,h5⟩:=run_append_own_at (P:=P) w base t o.type e i z size bytes ht hi hz hsize hby hzs hsz v n xs hown ad m c news hl hnews h1 h63 hbytes hbase
 unfold Oper.wp
 simp only [execOp,ho,resolve,invoke,builtin,Sem.run_bind,Sem.run_pure,Result.andThen_ok,List.map_toArray,List.map_cons,List.map_nil,hs,hx,hr]
 exact h v' w' h2 h3 h4 h5
end
def BytesAt (w:World) (b off:Nat) (K:List UInt8):Prop:=∀ j x,K[j]?=some x→w.cell? ⟨b,off+j,none⟩=some (byteV x)
theorem BytesAt.news {w:World} {b off:Nat} {K:List UInt8} (h:BytesAt w b off K) (k:Nat):∀ j u,((K.take k).map byteV)[j]?=some u→w.cell? ((⟨b,off,none⟩:Addr).add j)=some u:=fun j u hu=>by
 rw [List.getElem?_map] at hu
 cases hx:(K.take k)[j]? with
 | none=>rw [hx] at hu;cases hu
 | some x=>
  rw [hx] at hu;cases hu
  have hj:j < k:=by
   rcases Nat.lt_or_ge j k with q|q
   ·exact q
   ·rw [List.getElem?_eq_none (by simp;omega)] at hx;cases hx
  rw [List.getElem?_take_of_lt hj] at hx
  have e:(⟨b,off,none⟩:Addr).add j=⟨b,off+j,none⟩:=by simp [Addr.add]
  rw [e];exact h j x hx
theorem bytes_one {K:List UInt8}:∀ u∈K.map byteV,u.oneCell'=true:=fun u hu=>by
 obtain⟨x,_,rfl⟩:=List.mem_map.mp hu;rfl
theorem CuAt.drew {w:World} {c p lim num from_ len:Nat} {v:Value} {L:List UInt8} (h:CuAt w c p lim num from_ len v L):CuAt w.drew c p lim num from_ len v L:=h.blocks rfl (fun _ _=>rfl)
theorem BytesAt.drew {w:World} {b off:Nat} {K:List UInt8} (h:BytesAt w b off K):BytesAt w.drew b off K:=fun j x hx=>by rw [← h j x hx];simp
theorem afterApp {w w5:World} {c p lim num from_ len g h cap k:Nat} {L:List UInt8} {news:List Value} {v':Value} (C:CuAt w c p lim num from_ len (.slice (some ⟨g,0,none⟩) h cap) L) (hgrow:w.grownBy w5 (Value.slice (some ⟨g,0,none⟩) h cap).ownBlock)
  (hown:w5.ownsRow 0 5 1 v' (h+k) news) (hnil:v'=.slice none 0 0↔(Value.slice (some ⟨g,0,none⟩) h cap)=.slice none 0 0∧k=0) (hloc:v'.ownBlock=(Value.slice (some ⟨g,0,none⟩) h cap).ownBlock∨v'.ownBlock=some w.heap.size) :
  ∃ g' cap',v'=.slice (some ⟨g',0,none⟩) (h+k) cap'∧(g'=g∨g'=w.heap.size)∧w5.heap[c]?=some (.cells #[.int .i64 lim,fnV p,.int .i64 num,.int .i64 from_,.int .i64 len,.slice (some ⟨g,0,none⟩) h cap] 147):=by
 have hg:g≠c:=by
  rintro rfl
  rcases C.held.2 with ⟨q,_⟩|⟨g',cap',cur,q,_,hg,_⟩
  ·cases q
  ·cases q
   rw [C.cell] at hg
   injection hg with hg
   injection hg with _ hg _
   revert hg;decide
 rcases hown.2 with ⟨q,_⟩|⟨g',cap',cur,q,_⟩
 ·have:=(hnil.mp q).1;cases this
 ·refine⟨g',cap',q,?_,(hgrow.block c (lt_of_heap C.cell) (by simp [Value.ownBlock];exact fun q=>hg q.symm)).trans C.cell⟩
  subst q
  simp [Value.ownBlock] at hloc
  exact hloc
theorem cuCells {w:World} {c:Nat} {a b d f e v:Value} (h:w.heap[c]?=some (.cells #[a,b,d,f,e,v] 147)):w.frozen? ⟨c,5,none⟩=false∧w.frozen? ⟨c,4,none⟩=false∧w.cell? ⟨c,5,none⟩=some v∧w.cell? ⟨c,4,none⟩=some e:=by
 refine⟨?_,?_,?_,?_⟩
 ·rw [World.frozen?,h];rfl
 ·rw [World.frozen?,h];rfl
 ·rw [World.cell?,h];rfl
 ·rw [World.cell?,h];rfl
theorem CuAt.len {w:World} {c p lim num from_ len g h cap:Nat} {L:List UInt8} (C:CuAt w c p lim num from_ len (.slice (some ⟨g,0,none⟩) h cap) L):L.length=h∧h≤cap:=by
 rcases C.held.2 with ⟨q,_⟩|⟨g',cap',cur,q,_,hg,h1,_⟩
 ·cases q
 ·injection q with q1 q2 q3
  exact⟨q2.symm,by omega⟩
theorem notU8 {w:World} {g c:Nat} {cur a:Array Value} (h1:w.heap[g]?=some (.cells cur 5 (0,0))) (h2:w.heap[c]?=some (.cells a 147)):g≠c:=by
 rintro rfl
 rw [h1] at h2
 injection h2 with h2
 injection h2 with _ h2 _
 revert h2;decide
theorem takeEnd {w w1 w5:World} {c p lim num from_ len g h cap k m g5 cap5:Nat} {L K:List UInt8} (hL:L.length=h) (hk:k=min (lim - h) m) (hK:K.length=m) (U1:Upd [] w w1)
  (hA:w5.ownsRow 0 5 1 (.slice (some ⟨g5,0,none⟩) (h+k) cap5) (h+k) (L.map byteV++(K.take k).map byteV)∧w1.drew.grownBy w5 (some g)∧(g5=g∨g5=w1.drew.heap.size)∧w5.heap[c]?=some (.cells #[.int .i64 lim,fnV p,.int .i64 num,.int .i64 from_,.int .i64 len,.slice (some ⟨g,0,none⟩) h cap] 147)) :
  ∃ g' cap',Ending.returned (.tuple #[])=.returned (.tuple #[])∧(g'=g∨w.heap.size≤g')∧CuAt ((w5.setCell ⟨c,5,none⟩ (.slice (some ⟨g5,0,none⟩) (h+k) cap5)).setCell ⟨c,4,none⟩ (.int .i64 ((len:Int)+m))) c p lim num from_ (len+m) (.slice (some ⟨g',0,none⟩) (h+min (lim - h) m) cap') (L++K.take (lim - h))∧Upd [c,g] w ((w5.setCell ⟨c,5,none⟩ (.slice (some ⟨g5,0,none⟩) (h+k) cap5)).setCell ⟨c,4,none⟩ (.int .i64 ((len:Int)+m))):=by
 obtain⟨h1,h2,h3,h4⟩:=hA
 have e1:K.take k=K.take (lim - h):=by
  rw [hk]
  rcases Nat.le_total (lim - h) m with q|q
  ·rw [Nat.min_eq_left q]
  ·rw [Nat.min_eq_right q,List.take_of_length_le (by omega),List.take_of_length_le (by omega)]
 have hg5:g5≠c:=by
  rcases h1.2 with ⟨q,_⟩|⟨g',cap',cur,q,_,hg,_⟩
  ·cases q
  ·cases q;exact notU8 hg h4
 have hsz:=U1.size
 have u5:Upd [c,g] w1 w5:=⟨h2.os,h2.tape,h2.output,h2.size,fun k hk hn=>h2.block k hk (by simp at hn ⊢;exact fun q=>hn.2 q)⟩
 have u6:Upd [c,g] w5 ((w5.setCell ⟨c,5,none⟩ (.slice (some ⟨g5,0,none⟩) (h+k) cap5)).setCell ⟨c,4,none⟩ (.int .i64 ((len:Int)+m))):=by (repeat (first|exact Upd.refl _ _|refine Upd.drewN ?_|refine Upd.drew ?_|refine Upd.setCell ?_ (by simp) _|refine Upd.alloc ?_ _))
 have u6':Upd [c] w5 ((w5.setCell ⟨c,5,none⟩ (.slice (some ⟨g5,0,none⟩) (h+k) cap5)).setCell ⟨c,4,none⟩ (.int .i64 ((len:Int)+m))):=by (repeat (first|exact Upd.refl _ _|refine Upd.drewN ?_|refine Upd.drew ?_|refine Upd.setCell ?_ (by simp) _|refine Upd.alloc ?_ _))
 refine⟨g5,cap5,rfl,?_,⟨?_,?_⟩,((U1.mono (by simp)).trans u5).trans u6⟩
 ·rcases h3 with q|q
  ·exact Or.inl q
  ·right;rw [q];exact hsz
 ·rw [heap_set (heap_set h4 _ _) _ _,← hk]
  congr 2
 ·have hlen:(L++K.take (lim - h)).length=h+k:=by rw [List.length_append,hL,List.length_take,hK,hk]
  rw [hlen,← hk,← e1,List.map_append]
  exact ownsRow_same h1 (fun x hx hlt=>u6'.block x hlt (by simp [Value.ownBlock] at hx ⊢;rw [← hx];exact hg5))
set_option maxRecDepth 8000 in
set_option maxHeartbeats 1600000 in
theorem cuTake_any (c p lim num from_ len g h cap:Nat) (L:List UInt8) (b off m cp:Nat) (K:List UInt8) (w:World) (hl:lim≤100) (hm:m≤1100000) (hlen:len≤2200000) (hh:h≤lim) (hmc:m≤cp) (hK:K.length=m) (hB:BytesAt w b off K) (C:CuAt w c p lim num from_ len (.slice (some ⟨g,0,none⟩) h cap) L):Calls Tryz.prog 80 #[.pointer (some ⟨c,0,none⟩),.slice (some ⟨b,off,none⟩) m cp] w fun e w'=>∃ g' cap',e=.returned (.tuple #[])∧(g'=g∨w.heap.size≤g')∧CuAt w' c p lim num from_ (len+m) (.slice (some ⟨g',0,none⟩) (h+min (lim - h) m) cap') (L++K.take (lim - h))∧Upd [c,g] w w':=by
 obtain⟨hL,hcap⟩:=C.len
 have HO:Hid (w.ownsRow 0 5 1 (.slice (some ⟨g,0,none⟩) h cap) h (L.map byteV)):=by have:=C.held;rw [hL] at this;exact this
 obtain⟨it,hi1,hi2,hi3,hi4⟩:=pInfoU8
 have HI:Hid (Tryz.prog.info? 5=some it∧it.zero=some (.int .u8 0)∧it.size=1∧it.bytes=1):=⟨hi1,hi2,hi3,hi4⟩
 have HC:Hid (CuAt w c p lim num from_ len (.slice (some ⟨g,0,none⟩) h cap) L):=C
 have HB:Hid (BytesAt w b off K):=hB
 have HK:Hid (K.length=m):=hK
 obtain⟨k,hk⟩:∃ k,k=min (lim - h) m:=⟨_,rfl⟩
 have hmin:min ((lim:Int) - h) m=k:=by omega
 have hkm:k≤m:=by omega
 have hkc:k≤cp:=by omega
 have HKE:Hid (k=min (lim - h) m):=hk
 clear hk
 have c0:w.cell? ⟨c,0,none⟩=some (.int .i64 lim):=by rw [World.cell?,C.cell];rfl
 have c5:w.cell? ⟨c,5,none⟩=some (.slice (some ⟨g,0,none⟩) h cap):=by rw [World.cell?,C.cell];rfl
 have hc:c < w.heap.size:=lt_of_heap C.cell
 have H63:Hid (h+k≤maxLen):=by unfold Hid maxLen;have:=HKE.out;omega
 have HBY:Hid ((h+k) * 1≤140737488355328):=by unfold Hid;have:=HKE.out;omega
 have HN:Hid (((K.take k).map byteV).length=k * 1):=by show _=_;rw [List.length_map,List.length_take,HK.out];omega
 clear C hB hK hi1 hi2 hi3 hi4
 go_enter Tryz.func80,Tryz.ntmps80
 go_wp2_with fail
 go_quiet (fail)
 go_wp2_with fail
 have U1:Hid (Upd [] w (w.drewN nq)):=by (repeat (first|exact Upd.refl _ _|refine Upd.drewN ?_|refine Upd.drew ?_|refine Upd.setCell ?_ (by simp) _|refine Upd.alloc ?_ _))
 have HC1:Hid (CuAt (w.drewN nq) c p lim num from_ len (.slice (some ⟨g,0,none⟩) h cap) L):=HC.out.blocks (U1.out.block c hc (by simp)) (fun k hk=>U1.out.block k (ownBlock_lt HC.out.held hk).1 (by simp))
 have HB1:Hid (BytesAt (w.drewN nq) b off K):=fun j x hx=>by rw [← HB.out j x hx];simp
 have HO1:Hid ((w.drewN nq).drew.ownsRow 0 5 1 (.slice (some ⟨g,0,none⟩) h cap) h (L.map byteV)):=HO.out
 have HZ:Hid (w.heap.size≤(w.drewN nq).heap.size):=U1.out.size
 generalize w.drewN nq=w1 at *
 have d5:w1.cell? ⟨c,5,none⟩=some (.slice (some ⟨g,0,none⟩) h cap):=by rw [World.cell?,HC1.out.cell];rfl
 have e5:w1.frozen? ⟨c,5,none⟩=false:=by rw [World.frozen?,HC1.out.cell];rfl
 go_region_law (refine step_row rfl _ _ 97 rfl 0 5 it (.int .u8 0) 1 1 Tryz.underlying97 HI.out.1 HI.out.2.1 HI.out.2.2.1 HI.out.2.2.2 (by decide) (by decide) (.slice (some ⟨g,0,none⟩) h cap) h (L.map byteV) (by simp [Act.eval,Act.put]) (by exact HO1.out) ⟨b,off,none⟩ k cp ((K.take k).map byteV) (by simp [Act.eval,Act.put]) HN.out (by exact HB1.out.drew.news k) bytes_one H63.out HBY.out (by exact Nat.zero_le _) ?_;intro v' w5 hown' hgrow hnil hloc;obtain⟨g5,cap5,hv5,hg5,hc5⟩:=afterApp HC1.out.drew hgrow hown' hnil hloc;subst hv5;obtain⟨f5,f4,x5,x4⟩:=cuCells hc5;have HA5:Hid (w5.ownsRow 0 5 1 (.slice (some ⟨g5,0,none⟩) (h+k) cap5) (h+k) (L.map byteV++(K.take k).map byteV)∧w1.drew.grownBy w5 (some g)∧(g5=g∨g5=w1.drew.heap.size)∧w5.heap[c]?=some (.cells #[.int .i64 lim,fnV p,.int .i64 num,.int .i64 from_,.int .i64 len,.slice (some ⟨g,0,none⟩) h cap] 147)):=⟨hown',hgrow,hg5,hc5⟩;clear hown' hgrow hg5 hc5 hnil hloc)
 all_goals go_wp2_with fail
 all_goals go_end0
 all_goals exact takeEnd hL HKE.out HK.out U1.out HA5.out
structure CmInv (wb:World) (g n a:Nat) (f:Nat→Int×Int) (gn:Nat) (vi:Value) (wr:World):Prop where
 st:∃ c:Nat,vi=.int .i64 c∧c+gn=n∧Upd [g] wb wr∧SpansAt wr g n (fun k=>if k < c then Sp.mv a (f k) else f k)
theorem mv_step {f:Nat→Int×Int} {a c:Nat} {x:Int×Int} (hx:x=Sp.mv a (f c)):(fun k=>if k=c then x else if k < c then Sp.mv a (f k) else f k)=(fun k=>if k < c+1 then Sp.mv a (f k) else f k):=by
 funext k
 by_cases h1:k=c
 ·subst h1;rw [if_pos rfl,if_pos (by omega),hx]
 ·rw [if_neg h1]
  by_cases h2:k < c
  ·rw [if_pos h2,if_pos (by omega)]
  ·rw [if_neg h2,if_neg (by omega)]
set_option maxRecDepth 8000 in
set_option maxHeartbeats 1600000 in
theorem cuMove_any (g n a:Nat) (f:Nat→Int×Int) (w:World) (hn:n≤100) (ha:a≤3000000) (hf:∀ k,k < n→-1≤(f k).1∧(f k).1≤1000∧-1≤(f k).2∧(f k).2≤1000) (h:SpansAt w g n f):Calls Tryz.prog 115 #[.slice (some ⟨g,0,none⟩) n n,.int .i64 a] w fun e w'=>e=.returned (.tuple #[])∧Upd [g] w w'∧SpansAt w' g n (fun k=>Sp.mv a (f k)):=by
 have HF:Hid (∀ k,k < n→-1≤(f k).1∧(f k).1≤1000∧-1≤(f k).2∧(f k).2≤1000):=hf
 have HH:Hid (SpansAt w g n f):=h
 clear h hf
 go_enter Tryz.func115,Tryz.ntmps115
 go_wp2_with fail
 go_loopg [8] n (fun gn vi wr=>CmInv w g n a f gn vi wr)
 case atStart=>exact⟨0,rfl,by omega,Upd.refl _ _,by have:=HH.out;simpa using this⟩
 case round=>
  obtain⟨c,e1,hc,hu,hs⟩:=hrel.st
  subst e1
  have HU:Hid (Upd [g] w wr):=hu
  have HS:Hid (SpansAt wr g n (fun k=>if k < c then Sp.mv a (f k) else f k)):=hs
  by_cases h:c < n
  ·have h':(c:Int) < n:=by omega
   obtain⟨gm,hgm⟩:∃ k,gk=k+1:=⟨gk - 1,by omega⟩
   obtain⟨c0,c1,fz⟩:=hs.facts
   have e0:=c0 c h
   have e1:=c1 c h
   simp only [Nat.lt_irrefl,if_false] at e0 e1
   have hg:=lt_of_heap hs
   obtain⟨b1,b2,b3,b4⟩:=HF.out c h
   have HM:Hid (Sp.mv a (f c)=if 0≤(f c).1 then ((f c).1+a,(f c).2+a) else f c):=rfl
   clear hu hs c0 c1
   by_cases hx:0≤(f c).1
   ·have RL:Hid (SpansAt ((wr.setCell ⟨g,c * 2,none⟩ (.int .i64 ((f c).1+a))).setCell ⟨g,c * 2+1,none⟩ (.int .i64 ((f c).2+a))) g n (fun k=>if k < c+1 then Sp.mv a (f k) else f k)):=by
     have:=HS.out.put c h ((f c).1+a) ((f c).2+a)
     rw [mv_step (by rw [HM.out,if_pos hx])] at this
     exact this
    generalize (f c).1=X at *
    generalize (f c).2=Y at *
    go_wp2_with fail
    go_roundg gm
    case measure=>omega
    case rel=>exact⟨c+1,rfl,by omega,HU.out.trans (by (repeat (first|exact Upd.refl _ _|refine Upd.drewN ?_|refine Upd.drew ?_|refine Upd.setCell ?_ (by simp) _|refine Upd.alloc ?_ _))),(Below.heap_alloc _ _ _ (lt_of_heap RL.out)).trans RL.out⟩
   ·have RL:Hid (SpansAt wr g n (fun k=>if k < c+1 then Sp.mv a (f k) else f k)):=by
     refine HS.out.congr (fun k hk=>?_)
     by_cases h2:k < c
     ·rw [if_pos h2,if_pos (by omega)]
     ·rw [if_neg h2]
      by_cases h3:k=c
      ·subst h3;rw [if_pos (by omega),HM.out,if_neg hx]
      ·rw [if_neg (by omega)]
    generalize (f c).1=X at *
    generalize (f c).2=Y at *
    go_wp2_with fail
    go_roundg gm
    case measure=>omega
    case rel=>exact⟨c+1,rfl,by omega,HU.out.trans (by (repeat (first|exact Upd.refl _ _|refine Upd.drewN ?_|refine Upd.drew ?_|refine Upd.setCell ?_ (by simp) _|refine Upd.alloc ?_ _))),(Below.heap_alloc _ _ _ (lt_of_heap RL.out)).trans RL.out⟩
  ·have h':¬ (c:Int) < n:=by omega
   go_wp2_with fail
   go_end0
   refine⟨rfl,HU.out,?_⟩
   exact HS.out.congr (fun k hk=>by rw [if_pos (by omega)])
def apartS (t:Tr) (lim from_ len:Nat) (L:List UInt8):Int×Option (Nat→Int×Int):=
 if lim < len then (2,none) else match wholeS t (str L) with
  | none=>(1,none)
  | some f=>(0,some fun k=>Sp.mv from_ (f k))
theorem ofNat_toNat (x:UInt8):Sp.u8 (x.toNat:Int)=x:=by
 unfold Sp.u8
 apply UInt8.toNat_inj.mp
 rw [Int.toNat_natCast,UInt8.toNat_ofNat']
 have:=x.toNat_lt
 omega
theorem convHeld {w:World} {c p lim num from_ len g h cap:Nat} {L:List UInt8} (C:CuAt w c p lim num from_ len (.slice (some ⟨g,0,none⟩) h cap) L):(convert 97 9 (.slice (some ⟨g,0,none⟩) h cap)).run Tryz.prog w=.ok (.string (str L)) w:=by
 obtain⟨hL,hc⟩:=C.len
 have cells:∀ i (hi:i < L.length),w.cell? ⟨g,0+i,none⟩=some (.int .u8 ((L[i]).toNat:Int)):=fun i hi=>by
  rcases C.held.2 with ⟨q,_⟩|⟨g',cap',cur,q,_,hg,_,_,hs,ht⟩
  ·cases q
  ·cases q
   have hx:(cur.toList.take (L.length * 1))[i]?=some (byteV L[i]):=by rw [ht,List.getElem?_map,List.getElem?_eq_getElem hi];rfl
   rw [List.getElem?_take_of_lt (by omega),Array.getElem?_toList] at hx
   simp only [World.cell?,hg,Nat.zero_add]
   exact hx
 have e2:strOfNums (L.map fun x=>(x.toNat:Int))=str L:=by
  show str ((L.map fun x=>(x.toNat:Int)).map Sp.u8)=str L
  rw [List.map_map]
  have:L.map (Sp.u8 ∘ fun x=>(x.toNat:Int))=L.map id:=List.map_congr_left (fun x _=>ofNat_toNat x)
  rw [this,List.map_id]
 have:=run_convert_bytes_arg (P:=Tryz.prog) w 97 5 Tryz.underlying97 Tryz.underlying5 g 0 h cap (L.map fun x=>(x.toNat:Int)) (by simp [hL]) (fun i hi=>by
  have hi':i < L.length:=by omega
  rw [cells i hi'];simp [List.getElem?_eq_getElem hi']) 9 Tryz.underlying9
 rw [this,e2]
theorem eqlNil (w:World) (a:Option Addr) (n c:Nat):(binOp .eql 37 (.slice a n c) (.slice none 0 0)).run Tryz.prog w=.ok (.bool a.isNone) w:=by
 cases a<;>kernel_rfl
theorem sWhole_no (p:Nat) (u:Tr) (n:Nat) (t:ByteArray) (w:World) (ht:t.size≤100) (h:PatAt w p u n) (hr:wholeS u t=none):Calls Tryz.prog 26 #[.pointer (some ⟨p,0,none⟩),.string t] w fun e w'=>e=.returned (.slice none 0 0)∧Upd [] w w':=by
 refine (sWhole_any p u n t w ht h).mono ?_
 rw [hr]
 rintro e w' ⟨q,h⟩;exact⟨h,q⟩
theorem sWhole_yes (p:Nat) (u:Tr) (n:Nat) (t:ByteArray) (w:World) (ht:t.size≤100) (h:PatAt w p u n) {f:Nat→Int×Int} (hr:wholeS u t=some f):Calls Tryz.prog 26 #[.pointer (some ⟨p,0,none⟩),.string t] w fun e w'=>∃ g,w.heap.size≤g∧e=.returned (.slice (some ⟨g,0,none⟩) (n+1) (n+1))∧SpansAt w' g (n+1) f∧Upd [] w w':=by
 refine (sWhole_any p u n t w ht h).mono ?_
 rw [hr]
 rintro e w' ⟨q,g,h1,h2,h3⟩;exact⟨g,h1,h2,h3,q⟩
set_option maxRecDepth 8000 in
set_option maxHeartbeats 1600000 in
theorem cuApart_long (c p lim num from_ len:Nat) (v:Value) (L:List UInt8) (w:World) (hl:lim≤100) (hlen:len≤3000000) (h:lim < len) (C:CuAt w c p lim num from_ len v L):Calls Tryz.prog 102 #[.pointer (some ⟨c,0,none⟩)] w fun e w'=>e=.returned (.tuple #[.int .i64 2,.slice none 0 0])∧Upd [] w w':=by
 have c0:w.cell? ⟨c,0,none⟩=some (.int .i64 lim):=by rw [World.cell?,C.cell];rfl
 have c4:w.cell? ⟨c,4,none⟩=some (.int .i64 len):=by rw [World.cell?,C.cell];rfl
 clear C
 have h':(lim:Int) < len:=by omega
 go_enter Tryz.func102,Tryz.ntmps102
 go_wp2_with fail
 go_quiet (fail)
 go_wp2_with fail
 go_ret2
 exact⟨rfl,by (repeat (first|exact Upd.refl _ _|refine Upd.drewN ?_|refine Upd.drew ?_|refine Upd.setCell ?_ (by simp) _|refine Upd.alloc ?_ _))⟩
set_option maxRecDepth 8000 in
set_option maxHeartbeats 1600000 in
theorem cuApart_no (c p lim num from_ len g h cap:Nat) (L:List UInt8) (t:Tr) (n:Nat) (w:World) (hl:lim≤100) (hL:L.length≤lim) (hlen:len≤lim) (C:CuAt w c p lim num from_ len (.slice (some ⟨g,0,none⟩) h cap) L) (P:PatAt w p t n) (hr:wholeS t (str L)=none):Calls Tryz.prog 102 #[.pointer (some ⟨c,0,none⟩)] w fun e w'=>e=.returned (.tuple #[.int .i64 1,.slice none 0 0])∧Upd [] w w':=by
 have HP:Hid (PatAt w p t n):=P
 have HR:Hid (wholeS t (str L)=none):=hr
 have HC:Hid (CuAt w c p lim num from_ len (.slice (some ⟨g,0,none⟩) h cap) L):=C
 have hz:(str L).size≤100:=by rw [Sp.str_size];omega
 have c0:w.cell? ⟨c,0,none⟩=some (.int .i64 lim):=by rw [World.cell?,C.cell];rfl
 have c1:w.cell? ⟨c,1,none⟩=some (.func (.func 26) #[.pointer (some ⟨p,0,none⟩)] #[]):=by rw [World.cell?,C.cell];rfl
 have c4:w.cell? ⟨c,4,none⟩=some (.int .i64 len):=by rw [World.cell?,C.cell];rfl
 have c5:w.cell? ⟨c,5,none⟩=some (.slice (some ⟨g,0,none⟩) h cap):=by rw [World.cell?,C.cell];rfl
 clear C P hr
 have h':¬ (lim:Int) < len:=by omega
 have hnil:=eqlNil
 go_enter Tryz.func102,Tryz.ntmps102
 go_wp2_with fail
 go_quiet (fail)
 go_wp2_with fail
 have hcv:(convert 97 9 (.slice (some ⟨g,0,none⟩) h cap)).run Tryz.prog (w.drewN nq).drew=.ok (.string (str L)) (w.drewN nq).drew:=convHeld (CuAt.drew (HC.out.blocks rfl (fun _ _=>rfl)))
 have U1:Hid (Upd [] w (w.drewN nq).drew):=by (repeat (first|exact Upd.refl _ _|refine Upd.drewN ?_|refine Upd.drew ?_|refine Upd.setCell ?_ (by simp) _|refine Upd.alloc ?_ _))
 have d1:(w.drewN nq).cell? ⟨c,1,none⟩=some (.func (.func 26) #[.pointer (some ⟨p,0,none⟩)] #[]):=by rw [← c1];simp
 have d5:(w.drewN nq).cell? ⟨c,5,none⟩=some (.slice (some ⟨g,0,none⟩) h cap):=by rw [← c5];simp
 generalize w.drewN nq=w1 at *
 go_region_with (go_at_call 26;refine (sWhole_no p t n (str L) _ hz (HP.out.upd U1.out) HR.out).mono ?_;rintro e w2 ⟨rfl,u2⟩;have U2:Hid (Upd [] w w2):=U1.out.trans u2;clear u2)
 all_goals go_wp2_with fail
 all_goals go_ret2
 all_goals exact⟨rfl,U2.out⟩
set_option maxRecDepth 8000 in
set_option maxHeartbeats 1600000 in
theorem cuApart_yes (c p lim num from_ len g h cap:Nat) (L:List UInt8) (t:Tr) (n:Nat) (f:Nat→Int×Int) (w:World) (hl:lim≤100) (hL:L.length≤lim) (hlen:len≤lim) (hfr:from_≤3000000) (C:CuAt w c p lim num from_ len (.slice (some ⟨g,0,none⟩) h cap) L) (P:PatAt w p t n) (hr:wholeS t (str L)=some f):Calls Tryz.prog 102 #[.pointer (some ⟨c,0,none⟩)] w fun e w'=>∃ q,w.heap.size≤q∧e=.returned (.tuple #[.int .i64 0,.slice (some ⟨q,0,none⟩) (n+1) (n+1)])∧SpansAt w' q (n+1) (fun k=>Sp.mv from_ (f k))∧Upd [] w w':=by
 have HP:Hid (PatAt w p t n):=P
 have HR:Hid (wholeS t (str L)=some f):=hr
 have HC:Hid (CuAt w c p lim num from_ len (.slice (some ⟨g,0,none⟩) h cap) L):=C
 have hz:(str L).size≤100:=by rw [Sp.str_size];omega
 have hn:n≤9:=P.1
 have HB:Hid (∀ k,k < n+1→-1≤(f k).1∧(f k).1≤1000∧-1≤(f k).2∧(f k).2≤1000):=fun k _=>wholeS_bd (by omega) hr k
 have hc:c < w.heap.size:=lt_of_heap C.cell
 have c0:w.cell? ⟨c,0,none⟩=some (.int .i64 lim):=by rw [World.cell?,C.cell];rfl
 have c1:w.cell? ⟨c,1,none⟩=some (.func (.func 26) #[.pointer (some ⟨p,0,none⟩)] #[]):=by rw [World.cell?,C.cell];rfl
 have c4:w.cell? ⟨c,4,none⟩=some (.int .i64 len):=by rw [World.cell?,C.cell];rfl
 have c5:w.cell? ⟨c,5,none⟩=some (.slice (some ⟨g,0,none⟩) h cap):=by rw [World.cell?,C.cell];rfl
 have C3:Hid (w.cell? ⟨c,3,none⟩=some (.int .i64 from_)):=by show _=_;rw [World.cell?,C.cell];rfl
 clear C P hr
 have h':¬ (lim:Int) < len:=by omega
 have hnil:=eqlNil
 go_enter Tryz.func102,Tryz.ntmps102
 go_wp2_with fail
 go_quiet (fail)
 go_wp2_with fail
 have hcv:(convert 97 9 (.slice (some ⟨g,0,none⟩) h cap)).run Tryz.prog (w.drewN nq).drew=.ok (.string (str L)) (w.drewN nq).drew:=convHeld (CuAt.drew (HC.out.blocks rfl (fun _ _=>rfl)))
 have U1:Hid (Upd [] w (w.drewN nq).drew):=by (repeat (first|exact Upd.refl _ _|refine Upd.drewN ?_|refine Upd.drew ?_|refine Upd.setCell ?_ (by simp) _|refine Upd.alloc ?_ _))
 have d1:(w.drewN nq).cell? ⟨c,1,none⟩=some (.func (.func 26) #[.pointer (some ⟨p,0,none⟩)] #[]):=by rw [← c1];simp
 have d5:(w.drewN nq).cell? ⟨c,5,none⟩=some (.slice (some ⟨g,0,none⟩) h cap):=by rw [← c5];simp
 generalize w.drewN nq=w1 at *
 go_region_with (go_at_call 26;refine (sWhole_yes p t n (str L) _ hz (HP.out.upd U1.out) HR.out).mono ?_;rintro e w2 ⟨q,hq,rfl,s2,u2⟩;have U2:Hid (Upd [] w w2):=U1.out.trans u2;have HQ:Hid (w.heap.size≤q):=Nat.le_trans U1.out.size hq;have S2:Hid (SpansAt w2 q (n+1) f):=s2;have e3:w2.cell? ⟨c,3,none⟩=some (.int .i64 from_):=(cell_eq (U2.out.block c hc (by simp)) _).trans C3.out;clear u2 s2 hq)
 all_goals go_wp2_with fail
 all_goals
  refine (cuMove_any q (n+1) from_ f _ (by omega) hfr HB.out S2.out).mono ?_
  rintro e w3 ⟨rfl,u3,s3⟩
  have U3:Hid (Upd [] w w3):=U2.out.hide u3 HQ.out
  have S3:Hid (SpansAt w3 q (n+1) (fun k=>Sp.mv from_ (f k))):=s3
  clear u3 s3
  go_wp2_with fail
  go_ret2
  exact⟨q,HQ.out,rfl,S3.out,U3.out⟩
theorem cuHeld_any (c p lim num from_ len g h cap:Nat) (L:List UInt8) (w:World) (C:CuAt w c p lim num from_ len (.slice (some ⟨g,0,none⟩) h cap) L):Calls Tryz.prog 58 #[.pointer (some ⟨c,0,none⟩)] w fun e w'=>e=.returned (.int .i64 h)∧Upd [] w w':=by
 have c5:w.cell? ⟨c,5,none⟩=some (.slice (some ⟨g,0,none⟩) h cap):=by rw [World.cell?,C.cell];rfl
 clear C
 go_enter Tryz.func58,Tryz.ntmps58
 go_wp2_with fail
 go_ret
 exact⟨rfl,by (repeat (first|exact Upd.refl _ _|refine Upd.drewN ?_|refine Upd.drew ?_|refine Upd.setCell ?_ (by simp) _|refine Upd.alloc ?_ _))⟩
theorem stRef_any (s c:Nat) (w:World) (S:StAt w s c):Calls Tryz.prog 54 #[.pointer (some ⟨s,0,none⟩)] w fun e w'=>e=.returned (.int .i64 0)∧Upd [] w w':=by
 have s0:w.cell? ⟨s,0,none⟩=some (.pointer (some ⟨c,0,none⟩)):=by unfold StAt at S;rw [World.cell?,S];rfl
 clear S
 go_enter Tryz.func54,Tryz.ntmps54
 go_wp2_with fail
 go_ret
 exact⟨rfl,by (repeat (first|exact Upd.refl _ _|refine Upd.drewN ?_|refine Upd.drew ?_|refine Upd.setCell ?_ (by simp) _|refine Upd.alloc ?_ _))⟩
def RecSp (w:World) (a:Option Addr) (m n:Nat):Option (Nat→Int×Int)→Prop
 | none=>a=none∧m=0
 | some f=>∃ q,a=some ⟨q,0,none⟩∧m=n∧SpansAt w q n f
def ApartOut (n:Nat) (r:Int×Option (Nat→Int×Int)) (w:World) (e:Ending) (w':World):Prop:=
 ∃ a m,e=.returned (.tuple #[.int .i64 r.1,.slice a m m])∧RecSp w' a m n r.2∧(∀ q o s,a=some ⟨q,o,s⟩→w.heap.size≤q)∧Upd [] w w'
theorem cuApart_any (c p lim num from_ len g h cap:Nat) (L:List UInt8) (t:Tr) (n:Nat) (w:World) (hl:lim≤100) (hL:L.length≤lim) (hlen:len≤3000000) (hfr:from_≤3000000) (C:CuAt w c p lim num from_ len (.slice (some ⟨g,0,none⟩) h cap) L) (P:PatAt w p t n):Calls Tryz.prog 102 #[.pointer (some ⟨c,0,none⟩)] w (ApartOut (n+1) (apartS t lim from_ len L) w):=by
 by_cases h1:lim < len
 ·refine (cuApart_long c p lim num from_ len _ L w hl hlen h1 C).mono ?_
  rintro e w' ⟨rfl,u⟩
  have:apartS t lim from_ len L=(2,none):=by unfold apartS;rw [if_pos h1]
  rw [this]
  exact⟨none,0,rfl,⟨rfl,rfl⟩,fun q o s hq=>(by cases hq),u⟩
 ·cases hr:wholeS t (str L) with
  | none=>
   refine (cuApart_no c p lim num from_ len g h cap L t n w hl hL (by omega) C P hr).mono ?_
   rintro e w' ⟨rfl,u⟩
   have:apartS t lim from_ len L=(1,none):=by unfold apartS;rw [if_neg h1,hr]
   rw [this]
   exact⟨none,0,rfl,⟨rfl,rfl⟩,fun q o s hq=>(by cases hq),u⟩
  | some f=>
   refine (cuApart_yes c p lim num from_ len g h cap L t n f w hl hL (by omega) hfr C P hr).mono ?_
   rintro e w' ⟨q,hq,rfl,hs,u⟩
   have:apartS t lim from_ len L=(0,some fun k=>Sp.mv from_ (f k)):=by unfold apartS;rw [if_neg h1,hr]
   rw [this]
   exact⟨some ⟨q,0,none⟩,n+1,rfl,⟨q,rfl,rfl,hs⟩,fun q' o s hq'=>(by cases hq';exact hq),u⟩
end Go.Proofs.YtcpfpnjkfahjcaaGreat
