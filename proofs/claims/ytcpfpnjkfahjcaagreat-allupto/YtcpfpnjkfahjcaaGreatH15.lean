import Derived.Test.YtcpfpnjkfahjcaaGreatH14
set_option linter.unusedSimpArgs false
set_option linter.unusedVariables false
namespace Go.Proofs.YtcpfpnjkfahjcaaGreat
open Go.RowKit
set_option maxHeartbeats 1600000 in
theorem mByteE_any (s n d i:Nat) (t:ByteArray) (m:Option Nat) (a:TN) (w:World) (h:SrAt w s t m) (hn:TnAt w n a) (ht:t.size≤100) :
  Calls Tryz.prog 66 #[ptr s,spotV ⟨n,d,i⟩] w (LeafOut i (decide (i < t.size) && (((Sp.byteAt t i).toNat:Int) == a.byte)) w):=by
 have s0:=lt_of_heap h
 have n0:=hn.lt
 have u:Upd [] w ((w.alloc (.cells #[.pointer (some ⟨n,0,none⟩),.int .i64 d,.int .i64 i] 140)).alloc (.cells #[.int .u64 0,.int .u64 0] 137)):=by (repeat (first|exact Upd.refl _ _|refine Upd.drewN ?_|refine Upd.drew ?_|refine Upd.setCell ?_ (by simp) _|refine Upd.alloc ?_ _))
 have U:Hid (Upd [] w ((w.alloc (.cells #[.pointer (some ⟨n,0,none⟩),.int .i64 d,.int .i64 i] 140)).alloc (.cells #[.int .u64 0,.int .u64 0] 137))):=u
 have S1:Hid (SrAt ((w.alloc (.cells #[.pointer (some ⟨n,0,none⟩),.int .i64 d,.int .i64 i] 140)).alloc (.cells #[.int .u64 0,.int .u64 0] 137)) s t m):=(u.block s s0 (by simp)).trans h
 have N1:Hid (TnAt ((w.alloc (.cells #[.pointer (some ⟨n,0,none⟩),.int .i64 d,.int .i64 i] 140)).alloc (.cells #[.int .u64 0,.int .u64 0] 137)) n a):=hn.same (u.block n n0 (by simp))
 have C1:Hid (SpAt ((w.alloc (.cells #[.pointer (some ⟨n,0,none⟩),.int .i64 d,.int .i64 i] 140)).alloc (.cells #[.int .u64 0,.int .u64 0] 137)) w.heap.size ⟨n,d,i⟩):=by
  show ((w.alloc (.cells #[.pointer (some ⟨n,0,none⟩),.int .i64 d,.int .i64 i] 140)).alloc (.cells #[.int .u64 0,.int .u64 0] 137)).heap[_]?=_
  rw [Below.heap_alloc _ _ _ (by simp)]
  exact heap_new rfl
 have P1:Hid (PlAt ((w.alloc (.cells #[.pointer (some ⟨n,0,none⟩),.int .i64 d,.int .i64 i] 140)).alloc (.cells #[.int .u64 0,.int .u64 0] 137)) (w.heap.size+1) (fun _=>false)):=plZ (heap_new (by simp))
 clear h hn u
 unfold spotV ptr
 by_cases hi:i < t.size
 ·have eb:=Sp.byteAt_in t i hi
  have EB:Hid ((((Sp.byteAt t i).toNat:Int) == a.byte)=((t[i].toNat:Int) == a.byte)):=by show _=_;rw [eb,Int.toNat_natCast]
  clear eb
  go_enter Tryz.func66,Tryz.ntmps66
  go_wp2_with fail
  refine (mBBb_yes s i ⟨n,d,i⟩ t m _ S1.out hi ht rfl w.heap.size ⟨n,d,i⟩ a C1.out N1.out).mono ?_
  rintro e w2 ⟨f,rfl,hf,u2⟩
  obtain⟨k0,k1,kz⟩:=PlAt.facts ((u2.block (w.heap.size+1) (by simp) (by simp)).trans P1.out)
  have hz:=u2.size
  have HU:Hid (Upd [] w w2):=U.out.trans u2
  have HF:Hid (∀ j,f j=(((t[i].toNat:Int) == a.byte) && j == i+1)):=hf
  clear u2 hf
  unfold plV plCells
  go_wp2_with fail
  refine bodyPost_ret (v:=.agg #[.int .u64 (word f 0 64),.int .u64 (word f 64 64)]) (by simp [results,Tryz.results66,go_sem,k0,k1,kz]) rfl ?_
  exact⟨f,rfl,by intro j;rw [HF.out j];rw [EB.out];simp only [hi,decide_true,Bool.true_and],Upd.hide (q:=w.heap.size+1) HU.out (by (repeat (first|exact Upd.refl _ _|refine Upd.drewN ?_|refine Upd.drew ?_|refine Upd.setCell ?_ (by simp) _|refine Upd.alloc ?_ _))) (by omega)⟩
 ·go_enter Tryz.func66,Tryz.ntmps66
  go_wp2_with fail
  refine (mBB_no s i ⟨n,d,i⟩ _ t m _ S1.out (by omega) rfl).mono ?_
  rintro e w2 ⟨f,rfl,hf,u2⟩
  obtain⟨k0,k1,kz⟩:=PlAt.facts ((u2.block (w.heap.size+1) (by simp) (by simp)).trans P1.out)
  have hz:=u2.size
  have HU:Hid (Upd [] w w2):=U.out.trans u2
  have HF:Hid (∀ j,f j=(false && j == i+1)):=hf
  clear u2 hf
  unfold plV plCells
  go_wp2_with fail
  refine bodyPost_ret (v:=.agg #[.int .u64 (word f 0 64),.int .u64 (word f 64 64)]) (by simp [results,Tryz.results66,go_sem,k0,k1,kz]) rfl ?_
  exact⟨f,rfl,by intro j;rw [HF.out j];simp only [hi,decide_false,Bool.false_and],Upd.hide (q:=w.heap.size+1) HU.out (by (repeat (first|exact Upd.refl _ _|refine Upd.drewN ?_|refine Upd.drew ?_|refine Upd.setCell ?_ (by simp) _|refine Upd.alloc ?_ _))) (by omega)⟩
set_option maxHeartbeats 1600000 in
theorem mAnyE_any (s n d i:Nat) (t:ByteArray) (m:Option Nat) (a:TN) (w:World) (h:SrAt w s t m) (hn:TnAt w n a) (ht:t.size≤100) :
  Calls Tryz.prog 67 #[ptr s,spotV ⟨n,d,i⟩] w (LeafOut i (decide (i < t.size) && (((Sp.byteAt t i).toNat:Int) != 10)) w):=by
 have s0:=lt_of_heap h
 have n0:=hn.lt
 have u:Upd [] w ((w.alloc (.cells #[.pointer (some ⟨n,0,none⟩),.int .i64 d,.int .i64 i] 140)).alloc (.cells #[.int .u64 0,.int .u64 0] 137)):=by (repeat (first|exact Upd.refl _ _|refine Upd.drewN ?_|refine Upd.drew ?_|refine Upd.setCell ?_ (by simp) _|refine Upd.alloc ?_ _))
 have U:Hid (Upd [] w ((w.alloc (.cells #[.pointer (some ⟨n,0,none⟩),.int .i64 d,.int .i64 i] 140)).alloc (.cells #[.int .u64 0,.int .u64 0] 137))):=u
 have S1:Hid (SrAt ((w.alloc (.cells #[.pointer (some ⟨n,0,none⟩),.int .i64 d,.int .i64 i] 140)).alloc (.cells #[.int .u64 0,.int .u64 0] 137)) s t m):=(u.block s s0 (by simp)).trans h
 have N1:Hid (TnAt ((w.alloc (.cells #[.pointer (some ⟨n,0,none⟩),.int .i64 d,.int .i64 i] 140)).alloc (.cells #[.int .u64 0,.int .u64 0] 137)) n a):=hn.same (u.block n n0 (by simp))
 have C1:Hid (SpAt ((w.alloc (.cells #[.pointer (some ⟨n,0,none⟩),.int .i64 d,.int .i64 i] 140)).alloc (.cells #[.int .u64 0,.int .u64 0] 137)) w.heap.size ⟨n,d,i⟩):=by
  show ((w.alloc (.cells #[.pointer (some ⟨n,0,none⟩),.int .i64 d,.int .i64 i] 140)).alloc (.cells #[.int .u64 0,.int .u64 0] 137)).heap[_]?=_
  rw [Below.heap_alloc _ _ _ (by simp)]
  exact heap_new rfl
 have P1:Hid (PlAt ((w.alloc (.cells #[.pointer (some ⟨n,0,none⟩),.int .i64 d,.int .i64 i] 140)).alloc (.cells #[.int .u64 0,.int .u64 0] 137)) (w.heap.size+1) (fun _=>false)):=plZ (heap_new (by simp))
 clear h hn u
 unfold spotV ptr
 by_cases hi:i < t.size
 ·have eb:=Sp.byteAt_in t i hi
  have EB:Hid ((((Sp.byteAt t i).toNat:Int) != 10)=((t[i].toNat:Int) != 10)):=by show _=_;rw [eb,Int.toNat_natCast]
  clear eb
  go_enter Tryz.func67,Tryz.ntmps67
  go_wp2_with fail
  refine (mBBa_yes s i ⟨n,d,i⟩ t m _ S1.out hi ht rfl).mono ?_
  rintro e w2 ⟨f,rfl,hf,u2⟩
  obtain⟨k0,k1,kz⟩:=PlAt.facts ((u2.block (w.heap.size+1) (by simp) (by simp)).trans P1.out)
  have hz:=u2.size
  have HU:Hid (Upd [] w w2):=U.out.trans u2
  have HF:Hid (∀ j,f j=(((t[i].toNat:Int) != 10) && j == i+1)):=hf
  clear u2 hf
  unfold plV plCells
  go_wp2_with fail
  refine bodyPost_ret (v:=.agg #[.int .u64 (word f 0 64),.int .u64 (word f 64 64)]) (by simp [results,Tryz.results67,go_sem,k0,k1,kz]) rfl ?_
  exact⟨f,rfl,by intro j;rw [HF.out j];rw [EB.out];simp only [hi,decide_true,Bool.true_and],Upd.hide (q:=w.heap.size+1) HU.out (by (repeat (first|exact Upd.refl _ _|refine Upd.drewN ?_|refine Upd.drew ?_|refine Upd.setCell ?_ (by simp) _|refine Upd.alloc ?_ _))) (by omega)⟩
 ·go_enter Tryz.func67,Tryz.ntmps67
  go_wp2_with fail
  refine (mBB_no s i ⟨n,d,i⟩ _ t m _ S1.out (by omega) rfl).mono ?_
  rintro e w2 ⟨f,rfl,hf,u2⟩
  obtain⟨k0,k1,kz⟩:=PlAt.facts ((u2.block (w.heap.size+1) (by simp) (by simp)).trans P1.out)
  have hz:=u2.size
  have HU:Hid (Upd [] w w2):=U.out.trans u2
  have HF:Hid (∀ j,f j=(false && j == i+1)):=hf
  clear u2 hf
  unfold plV plCells
  go_wp2_with fail
  refine bodyPost_ret (v:=.agg #[.int .u64 (word f 0 64),.int .u64 (word f 64 64)]) (by simp [results,Tryz.results67,go_sem,k0,k1,kz]) rfl ?_
  exact⟨f,rfl,by intro j;rw [HF.out j];simp only [hi,decide_false,Bool.false_and],Upd.hide (q:=w.heap.size+1) HU.out (by (repeat (first|exact Upd.refl _ _|refine Upd.drewN ?_|refine Upd.drew ?_|refine Upd.setCell ?_ (by simp) _|refine Upd.alloc ?_ _))) (by omega)⟩
set_option maxHeartbeats 1600000 in
theorem mListE_any (s n d i:Nat) (t:ByteArray) (m:Option Nat) (a:TN) (w:World) (h:SrAt w s t m) (hn:TnAt w n a) (ht:t.size≤100) (g:Nat→Bool) (hS:SetIn w n 4 g) :
  Calls Tryz.prog 68 #[ptr s,spotV ⟨n,d,i⟩] w (LeafOut i (decide (i < t.size) && (g (Sp.byteAt t i).toNat != a.not)) w):=by
 have s0:=lt_of_heap h
 have n0:=hn.lt
 have u:Upd [] w ((w.alloc (.cells #[.pointer (some ⟨n,0,none⟩),.int .i64 d,.int .i64 i] 140)).alloc (.cells #[.int .u64 0,.int .u64 0] 137)):=by (repeat (first|exact Upd.refl _ _|refine Upd.drewN ?_|refine Upd.drew ?_|refine Upd.setCell ?_ (by simp) _|refine Upd.alloc ?_ _))
 have U:Hid (Upd [] w ((w.alloc (.cells #[.pointer (some ⟨n,0,none⟩),.int .i64 d,.int .i64 i] 140)).alloc (.cells #[.int .u64 0,.int .u64 0] 137))):=u
 have S1:Hid (SrAt ((w.alloc (.cells #[.pointer (some ⟨n,0,none⟩),.int .i64 d,.int .i64 i] 140)).alloc (.cells #[.int .u64 0,.int .u64 0] 137)) s t m):=(u.block s s0 (by simp)).trans h
 have N1:Hid (TnAt ((w.alloc (.cells #[.pointer (some ⟨n,0,none⟩),.int .i64 d,.int .i64 i] 140)).alloc (.cells #[.int .u64 0,.int .u64 0] 137)) n a):=hn.same (u.block n n0 (by simp))
 have G1:Hid (SetIn ((w.alloc (.cells #[.pointer (some ⟨n,0,none⟩),.int .i64 d,.int .i64 i] 140)).alloc (.cells #[.int .u64 0,.int .u64 0] 137)) n 4 g):=hS.upd u n0 (by simp)
 have C1:Hid (SpAt ((w.alloc (.cells #[.pointer (some ⟨n,0,none⟩),.int .i64 d,.int .i64 i] 140)).alloc (.cells #[.int .u64 0,.int .u64 0] 137)) w.heap.size ⟨n,d,i⟩):=by
  show ((w.alloc (.cells #[.pointer (some ⟨n,0,none⟩),.int .i64 d,.int .i64 i] 140)).alloc (.cells #[.int .u64 0,.int .u64 0] 137)).heap[_]?=_
  rw [Below.heap_alloc _ _ _ (by simp)]
  exact heap_new rfl
 have P1:Hid (PlAt ((w.alloc (.cells #[.pointer (some ⟨n,0,none⟩),.int .i64 d,.int .i64 i] 140)).alloc (.cells #[.int .u64 0,.int .u64 0] 137)) (w.heap.size+1) (fun _=>false)):=plZ (heap_new (by simp))
 clear h hn u hS
 unfold spotV ptr
 by_cases hi:i < t.size
 ·have eb:=Sp.byteAt_in t i hi
  have EB:Hid ((g (Sp.byteAt t i).toNat != a.not)=(g t[i].toNat != a.not)):=by show _=_;rw [eb,Int.toNat_natCast]
  clear eb
  go_enter Tryz.func68,Tryz.ntmps68
  go_wp2_with fail
  refine (mBBl_yes s i ⟨n,d,i⟩ t m _ S1.out hi ht rfl w.heap.size ⟨n,d,i⟩ a g C1.out N1.out G1.out).mono ?_
  rintro e w2 ⟨f,rfl,hf,u2⟩
  obtain⟨k0,k1,kz⟩:=PlAt.facts ((u2.block (w.heap.size+1) (by simp) (by simp)).trans P1.out)
  have hz:=u2.size
  have HU:Hid (Upd [] w w2):=U.out.trans u2
  have HF:Hid (∀ j,f j=((g t[i].toNat != a.not) && j == i+1)):=hf
  clear u2 hf
  unfold plV plCells
  go_wp2_with fail
  refine bodyPost_ret (v:=.agg #[.int .u64 (word f 0 64),.int .u64 (word f 64 64)]) (by simp [results,Tryz.results68,go_sem,k0,k1,kz]) rfl ?_
  exact⟨f,rfl,by intro j;rw [HF.out j];rw [EB.out];simp only [hi,decide_true,Bool.true_and],Upd.hide (q:=w.heap.size+1) HU.out (by (repeat (first|exact Upd.refl _ _|refine Upd.drewN ?_|refine Upd.drew ?_|refine Upd.setCell ?_ (by simp) _|refine Upd.alloc ?_ _))) (by omega)⟩
 ·go_enter Tryz.func68,Tryz.ntmps68
  go_wp2_with fail
  refine (mBB_no s i ⟨n,d,i⟩ _ t m _ S1.out (by omega) rfl).mono ?_
  rintro e w2 ⟨f,rfl,hf,u2⟩
  obtain⟨k0,k1,kz⟩:=PlAt.facts ((u2.block (w.heap.size+1) (by simp) (by simp)).trans P1.out)
  have hz:=u2.size
  have HU:Hid (Upd [] w w2):=U.out.trans u2
  have HF:Hid (∀ j,f j=(false && j == i+1)):=hf
  clear u2 hf
  unfold plV plCells
  go_wp2_with fail
  refine bodyPost_ret (v:=.agg #[.int .u64 (word f 0 64),.int .u64 (word f 64 64)]) (by simp [results,Tryz.results68,go_sem,k0,k1,kz]) rfl ?_
  exact⟨f,rfl,by intro j;rw [HF.out j];simp only [hi,decide_false,Bool.false_and],Upd.hide (q:=w.heap.size+1) HU.out (by (repeat (first|exact Upd.refl _ _|refine Upd.drewN ?_|refine Upd.drew ?_|refine Upd.setCell ?_ (by simp) _|refine Upd.alloc ?_ _))) (by omega)⟩
def Base (w0:World) (s:Nat) (w:World):Prop:=∀ k,k < s→w.heap[k]?=w0.heap[k]?
def Right (w0:World) (s:Nat) (t:ByteArray) (x:Spot) (f:Nat→Bool):Prop:=∃ S tr,(∀ k,S k→k < s)∧NodesAt w0 S [x.n] [tr]∧Sp.Can [tr]∧∀ j,j≤t.size→f j=Sp.spotM t tr x.d x.f j
structure Live (w0:World) (s:Nat) (t:ByteArray) (w:World):Prop where
 base:Base w0 s w
 srch:Srch w s t (Right w0 s t)
def EndsOut (w0:World) (s:Nat) (t:ByteArray) (m:Nat→Bool) (w:World) (e:Ending) (w':World):Prop:=
 ∃ f,e=.returned (plV f)∧(∀ j,j≤t.size→f j=m j)∧Gone s w w'∧Live w0 s t w'
def EndsC (w0:World) (s:Nat) (t:ByteArray) (n:Nat) (tr:Tr) (d i:Nat):Prop:=
 ∀ w,Live w0 s t w→Calls Tryz.prog 51 #[ptr s,spotV ⟨n,d,i⟩] w (EndsOut w0 s t (Sp.spotM t tr d i) w)
theorem Live.lt {w0:World} {s:Nat} {t:ByteArray} {w:World} (h:Live w0 s t w):s < w.heap.size:=by
 obtain⟨m,h1,_⟩:=h.srch;exact lt_of_heap h1
theorem Live.upd {w0:World} {s:Nat} {t:ByteArray} {w w':World} (h:Live w0 s t w) {l:List Nat} (u:Upd l w w') (hs:∀ q,q∈l→s < q) (hn:∀ n,IsNd w n→IsNd w' n) (hl:∀ q,q∈l→q < w.heap.size→∀ es ck,w.heap[q]?≠some (.map es ck)):Live w0 s t w':=
 ⟨fun k hk=>(u.block k (by have:=h.lt;omega) (fun q=>by have:=hs k q;omega)).trans (h.base k hk),h.srch.upd u hn (fun q=>by have:=hs s q;omega) hl⟩
theorem Live.grow {w0:World} {s:Nat} {t:ByteArray} {w w':World} (h:Live w0 s t w) (u:Upd [] w w'):Live w0 s t w':=
 h.upd u (by simp) (fun n hn=>updW u hn (by simp)) (by simp)
theorem SpAt.new {w:World} {n d i C:Nat} (hC:C=w.heap.size):SpAt (w.alloc (.cells #[.pointer (some ⟨n,0,none⟩),.int .i64 d,.int .i64 i] 140)) C ⟨n,d,i⟩:=heap_new hC
theorem SpAt.alloc {w:World} {p:Nat} {x:Spot} (h:SpAt w p x) (o:Obj):SpAt (w.alloc o) p x:=by
 unfold SpAt at *;rw [Below.heap_alloc _ _ _ (lt_of_heap h)];exact h
theorem PlAt.isNd {w:World} {p:Nat} {f:Nat→Bool} (h:PlAt w p f):IsNd w p:=⟨_,_,h⟩
theorem SpAt.isNd {w:World} {p:Nat} {x:Spot} (h:SpAt w p x):IsNd w p:=⟨_,_,h⟩
theorem PlAt.gone {s:Nat} {w w':World} {p:Nat} {f:Nat→Bool} (h:PlAt w p f) (g:Gone s w w') (hp:p≠s):PlAt w' p f:=(g.block p (h.isNd.kept hp)).trans h
theorem SpAt.gone {s:Nat} {w w':World} {p:Nat} {x:Spot} (h:SpAt w p x) (g:Gone s w w') (hp:p≠s):SpAt w' p x:=(g.block p (h.isNd.kept hp)).trans h
theorem PlAt.upd {l:List Nat} {w w':World} {p:Nat} {f:Nat→Bool} (h:PlAt w p f) (u:Upd l w w') (hp:p∉l):PlAt w' p f:=(u.block p (lt_of_heap h) hp).trans h
theorem SpAt.upd {l:List Nat} {w w':World} {p:Nat} {x:Spot} (h:SpAt w p x) (u:Upd l w w') (hp:p∉l):SpAt w' p x:=(u.block p (lt_of_heap h) hp).trans h
theorem Live.tn {w0:World} {s:Nat} {t:ByteArray} {w:World} (h:Live w0 s t w) {n:Nat} {a:TN} (hn:TnAt w0 n a) (hs:n < s):TnAt w n a:=(h.base n hs).trans hn
theorem PlAt.store {w:World} {p:Nat} {f g:Nat→Bool} (h:PlAt w p f):PlAt ((w.setCell ⟨p,0,none⟩ (.int .u64 (word g 0 64))).setCell ⟨p,1,none⟩ (.int .u64 (word g 64 64))) p g:=heap_set (heap_set h 0 _) 1 _
theorem Live.pl {w0:World} {s:Nat} {t:ByteArray} {w w':World} (h:Live w0 s t w) {p:Nat} {f g:Nat→Bool} (u:Upd [p] w w') (hp:PlAt w p f) (hq:PlAt w' p g) (hs:s < p):Live w0 s t w':=by
 refine h.upd u (by simpa using hs) (fun n hn=>?_) (fun q hq _ es ck e=>?_)
 ·by_cases hnp:n=p
  ·subst hnp;exact hq.isNd
  ·exact updW u hn (by simpa using hnp)
 ·simp at hq;subst hq;unfold PlAt at hp;rw [hp] at e;cases e
structure BhInv (w0:World) (s:Nat) (t:ByteArray) (w:World) (C q:Nat) (x:Spot) (f1:Nat→Bool) (pm sm:Nat→Nat→Bool) (lo i:Nat) (gn:Nat) (v:Value) (wr:World):Prop where
 st:∃ c:Nat,v=.int .i64 c∧lo≤c∧c≤max lo (t.size+1)∧t.size+1≤gn+c∧Live w0 s t wr∧Gone s w wr∧C+2 < wr.heap.size∧q < wr.heap.size∧
  SpAt wr C x∧PlAt wr (C+1) (fun _=>false)∧PlAt wr q f1∧∃ g,PlAt wr (C+2) g∧∀ j,j≤t.size→g j=Sp.cutTo pm sm lo i c j
set_option maxHeartbeats 1600000 in
theorem mBehind_any (w0:World) (s n p d i lo:Nat) (t:ByteArray) (tr pt:Tr) (a:TN) (w:World) (h:Live w0 s t w) (ht:t.size≤100) (hlo:lo≤101) (hd:d < 1000) (hn:TnAt w0 n a) (hns:n < s) (hl:0≤a.least)
  (h1:EndsC w0 s t p pt 0 i) (h2:∀ k,lo≤k→k≤t.size→(Sp.sem t pt).m i k=true→EndsC w0 s t n tr (nextD a d) k) :
  Calls Tryz.prog 93 #[ptr s,spotV ⟨n,d,i⟩,ptr p,.int .i64 lo] w (EndsOut w0 s t (fun j=>Sp.cutB (Sp.sem t pt).m (Sp.spotM t tr (nextD a d)) lo i j) w):=by
 have H1:Hid (EndsC w0 s t p pt 0 i):=h1
 have H2:Hid (∀ k,lo≤k→k≤t.size→(Sp.sem t pt).m i k=true→EndsC w0 s t n tr (nextD a d) k):=h2
 have HN:Hid (TnAt w0 n a):=hn
 have hs:=h.lt
 have u:Upd [] w (((w.alloc (.cells #[.pointer (some ⟨n,0,none⟩),.int .i64 d,.int .i64 i] 140)).alloc (.cells #[.int .u64 0,.int .u64 0] 137)).alloc (.cells #[.int .u64 0,.int .u64 0] 137)):=by (repeat (first|exact Upd.refl _ _|refine Upd.drewN ?_|refine Upd.drew ?_|refine Upd.setCell ?_ (by simp) _|refine Upd.alloc ?_ _))
 have U:Hid (Upd [] w (((w.alloc (.cells #[.pointer (some ⟨n,0,none⟩),.int .i64 d,.int .i64 i] 140)).alloc (.cells #[.int .u64 0,.int .u64 0] 137)).alloc (.cells #[.int .u64 0,.int .u64 0] 137))):=u
 have L1:Hid (Live w0 s t (((w.alloc (.cells #[.pointer (some ⟨n,0,none⟩),.int .i64 d,.int .i64 i] 140)).alloc (.cells #[.int .u64 0,.int .u64 0] 137)).alloc (.cells #[.int .u64 0,.int .u64 0] 137))):=h.grow u
 have C1:Hid (SpAt (((w.alloc (.cells #[.pointer (some ⟨n,0,none⟩),.int .i64 d,.int .i64 i] 140)).alloc (.cells #[.int .u64 0,.int .u64 0] 137)).alloc (.cells #[.int .u64 0,.int .u64 0] 137)) w.heap.size ⟨n,d,i⟩):=((SpAt.new rfl).alloc _).alloc _
 have P1:Hid (PlAt (((w.alloc (.cells #[.pointer (some ⟨n,0,none⟩),.int .i64 d,.int .i64 i] 140)).alloc (.cells #[.int .u64 0,.int .u64 0] 137)).alloc (.cells #[.int .u64 0,.int .u64 0] 137)) (w.heap.size+1) (fun _=>false)):=(plZ (heap_new (by simp))).alloc _
 have P2:Hid (PlAt (((w.alloc (.cells #[.pointer (some ⟨n,0,none⟩),.int .i64 d,.int .i64 i] 140)).alloc (.cells #[.int .u64 0,.int .u64 0] 137)).alloc (.cells #[.int .u64 0,.int .u64 0] 137)) (w.heap.size+1+1) (fun _=>false)):=plZ (heap_new (by simp))
 clear h u h1 h2 hn
 unfold spotV ptr
 go_enter Tryz.func93,Tryz.ntmps93
 go_wp2_with fail
 refine (H1.out _ L1.out).mono ?_
 rintro e w1 ⟨f1,rfl,hf1,g1,l1⟩
 have C2:=C1.out.gone g1 (by omega)
 have Q1:=P1.out.gone g1 (by omega)
 have Q2:=P2.out.gone g1 (by omega)
 have hz:=g1.size
 have z2:w.heap.size+1+1 < w1.heap.size:=lt_of_heap Q2
 have z0:w.heap.size < w1.heap.size:=by omega
 have z1:w.heap.size+1 < w1.heap.size:=by omega
 have G1:Hid (Gone s w w1):=(U.out.gone (by simp)).trans g1
 obtain⟨e0,e1,e2,ez⟩:=C2.facts
 obtain⟨k0,k1,kz⟩:=Q1.facts
 obtain⟨k2,k3,ky⟩:=Q2.facts
 have HC:Hid (SpAt w1 w.heap.size ⟨n,d,i⟩):=C2
 have HQ1:Hid (PlAt w1 (w.heap.size+1) (fun _=>false)):=Q1
 have HQ2:Hid (PlAt w1 (w.heap.size+1+1) (fun _=>false)):=Q2
 have HL:Hid (Live w0 s t w1):=l1
 have HF:Hid (∀ j,j≤t.size→f1 j=Sp.spotM t pt 0 i j):=hf1
 clear C2 Q1 Q2 l1 g1 hf1
 unfold plV plCells
 go_wp2_with fail
 have V:Hid (Upd [] w1 (w1.alloc (.cells #[.int .u64 (word f1 0 64),.int .u64 (word f1 64 64)] 137))):=by show Upd _ _ _;(repeat (first|exact Upd.refl _ _|refine Upd.drewN ?_|refine Upd.drew ?_|refine Upd.setCell ?_ (by simp) _|refine Upd.alloc ?_ _))
 go_loopg [11] (t.size+2) (fun gn v wr=>BhInv w0 s t w w.heap.size w1.heap.size ⟨n,d,i⟩ f1 (Sp.sem t pt).m (Sp.spotM t tr (nextD a d)) lo i gn v wr)
 case atStart=>
  refine⟨lo,rfl,Nat.le_refl _,by omega,by omega,HL.out.grow V.out,G1.out.hide V.out (by simp),by simp;omega,by simp,HC.out.upd V.out (by simp),HQ1.out.upd V.out (by simp),heap_new rfl,fun _=>false,HQ2.out.upd V.out (by simp),fun j _=>(Sp.cutTo_none _ _ lo i j lo (Nat.le_refl _)).symm⟩
 case round=>
  obtain⟨c,rfl,hc1,hc2,hc3,lr,gr,y2,yq,sr,pr,qr,g,er,hg⟩:=hrel.st
  obtain⟨m,sm,mm⟩:=lr.srch
  obtain⟨d0,d1,d2,d3,d4,d5,d6,d7,d8,dz⟩:=sm.facts
  obtain⟨e0,e1,e2,ez⟩:=sr.facts
  obtain⟨k0,k1,kz⟩:=pr.facts
  obtain⟨k2,k3,ky⟩:=er.facts
  obtain⟨k4,k5,kx⟩:=qr.facts
  have LR:Hid (Live w0 s t wr):=lr
  have GR:Hid (Gone s w wr):=gr
  have SR:Hid (SpAt wr w.heap.size ⟨n,d,i⟩):=sr
  have PR:Hid (PlAt wr (w.heap.size+1) (fun _=>false)):=pr
  have QR:Hid (PlAt wr w1.heap.size f1):=qr
  have ER:Hid (PlAt wr (w.heap.size+2) g):=er
  have HG:Hid (∀ j,j≤t.size→g j=Sp.cutTo (Sp.sem t pt).m (Sp.spotM t tr (nextD a d)) lo i c j):=hg
  clear lr gr sr pr qr er hg sm mm
  by_cases hle:c≤t.size
  ·have hle':(c:Int)≤t.size:=by omega
   have hcc:c < 128:=by omega
   go_wp2_with fail
   refine (mHas_any _ f1 c _ QR.out hcc).mono ?_
   rintro e w2 ⟨rfl,hw2⟩
   rw [hw2]
   clear hw2 w2
   have hf1:f1 c=(Sp.sem t pt).m i c:=by rw [HF.out c hle,Sp.spotM_zero]
   cases hm:(Sp.sem t pt).m i c with
   | false=>
    rw [hf1,hm]
    have HM:Hid ((Sp.sem t pt).m i c=false):=hm
    clear hf1 hm
    obtain⟨gm,hgm⟩:∃ k,gk=k+1:=⟨gk - 1,by omega⟩
    go_wp2_with fail
    go_roundg gm
    case measure=>omega
    case rel=>exact⟨c+1,int_eq (by omega),by omega,by omega,by omega,LR.out,GR.out,y2,yq,SR.out,PR.out,QR.out,g,ER.out,fun j hj=>by rw [HG.out j hj,Sp.cutTo_no _ _ lo i j c HM.out]⟩
   | true=>
    rw [hf1,hm]
    have HM:Hid ((Sp.sem t pt).m i c=true):=hm
    clear hf1 hm
    obtain⟨gm,hgm⟩:∃ k,gk=k+1:=⟨gk - 1,by omega⟩
    go_wp2_with fail
    refine (mNext_any n d i c a _ (LR.out.tn HN.out hns) hd hl).mono ?_
    rintro e w3 ⟨rfl,u3⟩
    have L3:Hid (Live w0 s t w3):=LR.out.grow u3
    have U3:Hid (Upd [] wr w3):=u3
    clear u3
    unfold spotV
    go_wp2_with fail
    refine (H2.out c (by omega) hle HM.out _ L3.out).mono ?_
    rintro e w4 ⟨f4,rfl,hf4,g4,l4⟩
    have L4:Hid (Live w0 s t w4):=l4
    have G4:Hid (Gone s wr w4):=(U3.out.gone (by simp)).trans g4
    have HF4:Hid (∀ j,j≤t.size→f4 j=Sp.spotM t tr (nextD a d) c j):=hf4
    clear g4 l4 hf4
    go_wp2_with fail
    refine (mAddAll_any _ g f4 _ (ER.out.gone G4.out (by omega))).mono ?_
    rintro e w5 ⟨rfl,u5,p5⟩
    have sz:=G4.out.size
    have sz5:=u5.size
    have hq2:w1.heap.size≠w.heap.size+2:=by omega
    have RL:Hid (BhInv w0 s t w w.heap.size w1.heap.size ⟨n,d,i⟩ f1 (Sp.sem t pt).m (Sp.spotM t tr (nextD a d)) lo i gm (.int .i64 ((c+1:Nat):Int)) w5):=by
     refine⟨c+1,rfl,by omega,by omega,by omega,L4.out.pl u5 (ER.out.gone G4.out (by omega)) p5 (by omega),(GR.out.trans G4.out).hide u5 (by simp),by omega,by omega,(SR.out.gone G4.out (by omega)).upd u5 (by simp),(PR.out.gone G4.out (by omega)).upd u5 (by simp),(QR.out.gone G4.out (by omega)).upd u5 (by simpa using hq2),_,p5,fun j hj=>?_⟩
     show (g j || f4 j)=_
     rw [HG.out j hj,HF4.out j hj,Sp.cutTo_yes _ _ lo i j c (by omega) HM.out]
    clear u5 p5
    go_wp2_with fail
    go_roundg gm
    case measure=>omega
    case rel=>exact RL.out
  ·have hle':¬ (c:Int)≤t.size:=by omega
   have hle2:¬ c≤t.size:=hle
   go_wp2_with fail
   refine bodyPost_ret (v:=.agg #[.int .u64 (word g 0 64),.int .u64 (word g 64 64)]) (by simp [results,Tryz.results93,go_sem,k0,k1,kz]) rfl ?_
   have u9:Upd [w.heap.size+1] wr ((wr.setCell ⟨w.heap.size+1,0,none⟩ (.int .u64 (word g 0 64))).setCell ⟨w.heap.size+1,1,none⟩ (.int .u64 (word g 64 64))):=by (repeat (first|exact Upd.refl _ _|refine Upd.drewN ?_|refine Upd.drew ?_|refine Upd.setCell ?_ (by simp) _|refine Upd.alloc ?_ _))
   exact⟨g,rfl,fun j hj=>by rw [HG.out j hj];exact Sp.cutTo_all _ _ lo i j c (fun k hk=>Sp.spotM_le t tr _ k j hk) (by omega),GR.out.hide u9 (by simp),LR.out.pl u9 PR.out PR.out.store (by omega)⟩
end Go.Proofs.YtcpfpnjkfahjcaaGreat
