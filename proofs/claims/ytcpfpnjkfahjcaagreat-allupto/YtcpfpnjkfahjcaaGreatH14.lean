import Derived.Test.YtcpfpnjkfahjcaaGreatH13
import Derived.Test.YtcpfpnjkfahjcaaGreatH07
set_option linter.unusedSimpArgs false
set_option linter.unusedVariables false
namespace Go.Proofs.YtcpfpnjkfahjcaaGreat
open Go.RowKit
def nextD (a:TN) (d:Nat):Nat:=if a.most=-1 then (min (d+1:Int) a.least).toNat else d+1
set_option maxHeartbeats 400000 in
theorem mNext_any (n d i k:Nat) (a:TN) (w:World) (h:TnAt w n a) (hd:d < 1000) (hl:0≤a.least) :
  Calls Tryz.prog 113 #[spotV ⟨n,d,i⟩,.int .i64 k] w fun e w'=>e=.returned (spotV ⟨n,nextD a d,k⟩)∧Upd [] w w':=by
 obtain⟨c0,c1,c2,c3,c4,c5,c6,c7,c8,c9,c10,c11,fz⟩:=h.facts
 have hn:=h.lt
 have n1:n < w.heap.size+1:=by omega
 have n2:n < w.heap.size+1+1:=by omega
 clear h
 unfold spotV
 by_cases hm:a.most=-1
 ·go_enter Tryz.func113,Tryz.ntmps113
  go_wp2
  refine bodyPost_ret (v:=.agg #[.pointer (some ⟨n,0,none⟩),.int .i64 (min (d+1:Int) a.least),.int .i64 k]) (by simp [results,Tryz.results113,go_sem]) rfl ?_
  exact⟨by rw [show ((nextD a d:Nat):Int)=min (d+1:Int) a.least by unfold nextD;rw [if_pos hm];omega],by (repeat (first|exact Upd.refl _ _|refine Upd.drewN ?_|refine Upd.drew ?_|refine Upd.setCell ?_ (by simp) _|refine Upd.alloc ?_ _))⟩
 ·go_enter Tryz.func113,Tryz.ntmps113
  go_wp2
  refine bodyPost_ret (v:=.agg #[.pointer (some ⟨n,0,none⟩),.int .i64 (d+1:Int),.int .i64 k]) (by simp [results,Tryz.results113,go_sem]) rfl ?_
  exact⟨by rw [show ((nextD a d:Nat):Int)=d+1 by unfold nextD;rw [if_neg hm];omega],by (repeat (first|exact Upd.refl _ _|refine Upd.drewN ?_|refine Upd.drew ?_|refine Upd.setCell ?_ (by simp) _|refine Upd.alloc ?_ _))⟩
def SpAt (w:World) (c:Nat) (x:Spot):Prop:=w.heap[c]?=some (.cells #[.pointer (some ⟨x.n,0,none⟩),.int .i64 x.d,.int .i64 x.f] 140 (0,0))
structure SpFacts (w:World) (c:Nat) (x:Spot):Prop where
 e0:w.cell? ⟨c,0,none⟩=some (.pointer (some ⟨x.n,0,none⟩))
 e1:w.cell? ⟨c,1,none⟩=some (.int .i64 x.d)
 e2:w.cell? ⟨c,2,none⟩=some (.int .i64 x.f)
 fz:∀ o,w.frozen? ⟨c,o,none⟩=false
theorem SpAt.facts {w:World} {c:Nat} {x:Spot} (h:SpAt w c x):SpFacts w c x:=by
 unfold SpAt at h
 refine⟨?_,?_,?_,?_⟩<;>(try intro o)<;>simp [World.cell?,World.frozen?,h]
theorem clB_any (c:Nat) (x:Spot) (a:TN) (b:Int) (w:World) (h:SpAt w c x) (hn:TnAt w x.n a) :
  Calls Tryz.prog 89 #[.int .u8 b,.pointer (some ⟨c,0,none⟩)] w fun e w'=>e=.returned (.bool (b == a.byte))∧w'=w:=by
 obtain⟨c0,c1,c2,c3,c4,c5,c6,c7,c8,c9,c10,c11,fz⟩:=hn.facts
 obtain⟨e0,e1,e2,fy⟩:=h.facts
 clear h hn
 go_enter Tryz.func89,Tryz.ntmps89
 go_wp2
 go_ret
 exact⟨rfl,rfl⟩
theorem clA_any (b:Int) (w:World) :
  Calls Tryz.prog 90 #[.int .u8 b] w fun e w'=>e=.returned (.bool (b != 10))∧w'=w:=by
 go_enter Tryz.func90,Tryz.ntmps90
 go_wp2
 go_ret
 exact⟨rfl,rfl⟩
theorem SetIn.upd {l:List Nat} {w w':World} {p o:Nat} {f:Nat→Bool} (h:SetIn w p o f) (u:Upd l w w') (hp:p < w.heap.size) (hl:p∉l):SetIn w' p o f:=by
 have e:=u.block p hp hl
 have q:∀ o,w'.cell? ⟨p,o,none⟩=w.cell? ⟨p,o,none⟩:=fun o=>by simp [World.cell?,e]
 exact⟨(q _).trans h.c0,(q _).trans h.c1,(q _).trans h.c2,(q _).trans h.c3⟩
theorem clL_any (c:Nat) (x:Spot) (a:TN) (f:Nat→Bool) (b:Nat) (hb:b < 256) (w:World) (h:SpAt w c x) (hn:TnAt w x.n a) (hS:SetIn w x.n 4 f) :
  Calls Tryz.prog 91 #[.int .u8 b,.pointer (some ⟨c,0,none⟩)] w fun e w'=>e=.returned (.bool (f b != a.not))∧∃ n,w'=w.drewN n:=by
 obtain⟨c0,c1,c2,c3,c4,c5,c6,c7,c8,c9,c10,c11,fz⟩:=hn.facts
 obtain⟨e0,e1,e2,fy⟩:=h.facts
 have H:Hid (SetIn w x.n 4 f):=hS
 clear h hn hS
 go_enter Tryz.func91,Tryz.ntmps91
 go_wp2_with fail
 go_quiet ((go_at_call 92;exact Calls.quiet_of_same (tHas_any _ 4 f b _ ⟨H.out.c0,H.out.c1,H.out.c2,H.out.c3⟩ hb)))
 go_wp2
 go_ret
 exact⟨ret_bool (by cases f b<;>cases a.not<;>rfl),_,rfl⟩
theorem plZ {w:World} {p:Nat} (h:w.heap[p]?=some (.cells #[.int .u64 0,.int .u64 0] 137 (0,0))):PlAt w p (fun _=>false):=by
 have e:=plV_zero
 simp only [plV,Value.agg.injEq] at e
 unfold PlAt;rw [e,h]
def LeafOut (i:Nat) (b:Bool) (w:World) (e:Ending) (w':World):Prop:=∃ f,e=.returned (plV f)∧(∀ j,f j=(b && j == i+1))∧Upd [] w w'
set_option maxHeartbeats 1600000 in
theorem mBB_no (s i:Nat) (sp:Spot) (fv:Value) (t:ByteArray) (m:Option Nat) (w:World) (h:SrAt w s t m) (hi:t.size≤i) (hf:sp.f=i) :
  Calls Tryz.prog 88 #[ptr s,spotV sp,fv] w (LeafOut i false w):=by
 obtain⟨d0,d1,d2,d3,d4,d5,d6,d7,d8,fy⟩:=h.facts
 have s0:=lt_of_heap h
 have s1:s < w.heap.size+1:=by omega
 have s2:s < w.heap.size+1+1:=by omega
 have s3:s < w.heap.size+1+1+1:=by omega
 have hi':¬ i < t.size:=by omega
 clear h
 unfold spotV ptr
 rw [hf]
 go_enter Tryz.func88,Tryz.ntmps88
 go_wp2_with fail
 go_quiet (fail)
 go_wp2_with fail
 refine bodyPost_ret (v:=.agg #[.int .u64 0,.int .u64 0]) (by simp [results,Tryz.results88,go_sem]) rfl ?_
 refine⟨fun _=>false,by rw [plV_zero],by simp,?_⟩
 exact Upd.hide (q:=w.heap.size+1) (by (repeat (first|exact Upd.refl _ _|refine Upd.drewN ?_|refine Upd.drew ?_|refine Upd.setCell ?_ (by simp) _|refine Upd.alloc ?_ _))) (by (repeat (first|exact Upd.refl _ _|refine Upd.drewN ?_|refine Upd.drew ?_|refine Upd.setCell ?_ (by simp) _|refine Upd.alloc ?_ _))) (by omega)
set_option maxHeartbeats 1600000 in
theorem mBBb_yes (s i:Nat) (sp:Spot) (t:ByteArray) (m:Option Nat) (w:World) (h:SrAt w s t m) (hi:i < t.size) (ht:t.size≤100) (hf:sp.f=i) (c:Nat) (x:Spot) (a:TN) (hc:SpAt w c x) (hn:TnAt w x.n a) :
  Calls Tryz.prog 88 #[ptr s,spotV sp,.func (.func 89) #[] #[.pointer (some ⟨c,0,none⟩)]] w (LeafOut i ((t[i].toNat:Int) == a.byte) w):=by
 obtain⟨d0,d1,d2,d3,d4,d5,d6,d7,d8,fy⟩:=h.facts
 have s0:=lt_of_heap h
 have s1:s < w.heap.size+1:=by omega
 have s2:s < w.heap.size+1+1:=by omega
 have s3:s < w.heap.size+1+1+1:=by omega
 have hi':(i:Int) < t.size:=by omega
 have hi2:(i:Int) < 100:=by omega
 have u:∀ n,Upd [] w ((((w.alloc (.cells #[.pointer (some ⟨sp.n,0,none⟩),.int .i64 sp.d,.int .i64 i] 140)).alloc (.cells #[.int .u64 0,.int .u64 0] 137)).alloc (.cells #[.int .u64 0,.int .u64 0] 137)).drewN n):=by intro n;(repeat (first|exact Upd.refl _ _|refine Upd.drewN ?_|refine Upd.drew ?_|refine Upd.setCell ?_ (by simp) _|refine Upd.alloc ?_ _))
 have q:∀ n,Calls Tryz.prog 89 #[.int .u8 t[i].toNat,.pointer (some ⟨c,0,none⟩)] ((((w.alloc (.cells #[.pointer (some ⟨sp.n,0,none⟩),.int .i64 sp.d,.int .i64 i] 140)).alloc (.cells #[.int .u64 0,.int .u64 0] 137)).alloc (.cells #[.int .u64 0,.int .u64 0] 137)).drewN n) fun e w'=>e=.returned (.bool ((t[i].toNat:Int) == a.byte))∧∃ m,w'=((((w.alloc (.cells #[.pointer (some ⟨sp.n,0,none⟩),.int .i64 sp.d,.int .i64 i] 140)).alloc (.cells #[.int .u64 0,.int .u64 0] 137)).alloc (.cells #[.int .u64 0,.int .u64 0] 137)).drewN n).drewN m:=by
  intro n
  have u:=u n
  exact (clB_any c x a _ _ ((u.block c (lt_of_heap hc) (by simp)).trans hc) (hn.same (u.block x.n hn.lt (by simp)))).mono fun _ _ h=>⟨h.1,0,h.2⟩
 have U:Hid (∀ n,Upd [] w ((((w.alloc (.cells #[.pointer (some ⟨sp.n,0,none⟩),.int .i64 sp.d,.int .i64 i] 140)).alloc (.cells #[.int .u64 0,.int .u64 0] 137)).alloc (.cells #[.int .u64 0,.int .u64 0] 137)).drewN n)):=u
 have P1:Hid (∀ n,PlAt ((((w.alloc (.cells #[.pointer (some ⟨sp.n,0,none⟩),.int .i64 sp.d,.int .i64 i] 140)).alloc (.cells #[.int .u64 0,.int .u64 0] 137)).alloc (.cells #[.int .u64 0,.int .u64 0] 137)).drewN n) (w.heap.size+1) (fun _=>false)):=by
  intro n
  refine plZ ?_
  show (((w.alloc (.cells #[.pointer (some ⟨sp.n,0,none⟩),.int .i64 sp.d,.int .i64 i] 140)).alloc (.cells #[.int .u64 0,.int .u64 0] 137)).alloc (.cells #[.int .u64 0,.int .u64 0] 137)).heap[_]?=_
  rw [Below.heap_alloc _ _ _ (by simp)]
  exact heap_new (by simp)
 have P2:Hid (∀ n,PlAt ((((w.alloc (.cells #[.pointer (some ⟨sp.n,0,none⟩),.int .i64 sp.d,.int .i64 i] 140)).alloc (.cells #[.int .u64 0,.int .u64 0] 137)).alloc (.cells #[.int .u64 0,.int .u64 0] 137)).drewN n) (w.heap.size+1+1) (fun _=>false)):=by
  intro n
  refine plZ ?_
  exact heap_new (by simp)
 clear h u
 unfold spotV ptr
 rw [hf]
 go_enter Tryz.func88,Tryz.ntmps88
 go_wp2_with fail
 go_quiet ((go_at_call 89;exact Calls.quiet_of (q _)))
 cases hb:((t[i].toNat:Int) == a.byte)
 ·go_wp2_with fail
  refine bodyPost_ret (v:=.agg #[.int .u64 0,.int .u64 0]) (by simp [results,Tryz.results88,go_sem]) rfl ?_
  refine⟨fun _=>false,by rw [plV_zero],by intro j;simp only [hb,Bool.false_and],?_⟩
  exact Upd.hide (q:=w.heap.size+1) (U.out _) (by (repeat (first|exact Upd.refl _ _|refine Upd.drewN ?_|refine Upd.drew ?_|refine Upd.setCell ?_ (by simp) _|refine Upd.alloc ?_ _))) (by omega)
 ·go_wp2_with fail
  rw [show ((i:Int)+1)=((i+1:Nat):Int) by omega]
  refine (mAdd_any _ _ (i+1) _ (P2.out _) (by omega)).mono ?_
  rintro e w2 ⟨rfl,u2,p2⟩
  obtain⟨g0,g1,gz⟩:=p2.facts
  obtain⟨k0,k1,kz⟩:=PlAt.facts ((u2.block (w.heap.size+1) (by simp) (by simp)).trans (P1.out _))
  have hz:=u2.size
  have HU:=(U.out nq).hide u2 (by omega)
  have U2:Hid (Upd [] w w2):=HU
  clear u2 p2 HU
  go_wp2_with fail
  refine bodyPost_ret (v:=.agg #[.int .u64 (word (fun x=>x == i+1) 0 64),.int .u64 (word (fun x=>x == i+1) 64 64)]) (by simp [results,Tryz.results88,go_sem,k0,k1,kz]) rfl ?_
  exact⟨fun x=>x == i+1,rfl,by intro j;simp only [hb,Bool.true_and],Upd.hide (q:=w.heap.size+1) U2.out (by (repeat (first|exact Upd.refl _ _|refine Upd.drewN ?_|refine Upd.drew ?_|refine Upd.setCell ?_ (by simp) _|refine Upd.alloc ?_ _))) (by omega)⟩
set_option maxHeartbeats 1600000 in
theorem mBBl_yes (s i:Nat) (sp:Spot) (t:ByteArray) (m:Option Nat) (w:World) (h:SrAt w s t m) (hi:i < t.size) (ht:t.size≤100) (hf:sp.f=i) (c:Nat) (x:Spot) (a:TN) (f:Nat→Bool) (hc:SpAt w c x) (hn:TnAt w x.n a) (hS:SetIn w x.n 4 f) :
  Calls Tryz.prog 88 #[ptr s,spotV sp,.func (.func 91) #[] #[.pointer (some ⟨c,0,none⟩)]] w (LeafOut i (f t[i].toNat != a.not) w):=by
 obtain⟨d0,d1,d2,d3,d4,d5,d6,d7,d8,fy⟩:=h.facts
 have s0:=lt_of_heap h
 have s1:s < w.heap.size+1:=by omega
 have s2:s < w.heap.size+1+1:=by omega
 have s3:s < w.heap.size+1+1+1:=by omega
 have hi':(i:Int) < t.size:=by omega
 have hi2:(i:Int) < 100:=by omega
 have u:∀ n,Upd [] w ((((w.alloc (.cells #[.pointer (some ⟨sp.n,0,none⟩),.int .i64 sp.d,.int .i64 i] 140)).alloc (.cells #[.int .u64 0,.int .u64 0] 137)).alloc (.cells #[.int .u64 0,.int .u64 0] 137)).drewN n):=by intro n;(repeat (first|exact Upd.refl _ _|refine Upd.drewN ?_|refine Upd.drew ?_|refine Upd.setCell ?_ (by simp) _|refine Upd.alloc ?_ _))
 have q:∀ n,Calls Tryz.prog 91 #[.int .u8 t[i].toNat,.pointer (some ⟨c,0,none⟩)] ((((w.alloc (.cells #[.pointer (some ⟨sp.n,0,none⟩),.int .i64 sp.d,.int .i64 i] 140)).alloc (.cells #[.int .u64 0,.int .u64 0] 137)).alloc (.cells #[.int .u64 0,.int .u64 0] 137)).drewN n) fun e w'=>e=.returned (.bool (f t[i].toNat != a.not))∧∃ m,w'=((((w.alloc (.cells #[.pointer (some ⟨sp.n,0,none⟩),.int .i64 sp.d,.int .i64 i] 140)).alloc (.cells #[.int .u64 0,.int .u64 0] 137)).alloc (.cells #[.int .u64 0,.int .u64 0] 137)).drewN n).drewN m:=by
  intro n
  have u:=u n
  exact clL_any c x a f _ (by have:=t[i].toNat_lt;omega) _ ((u.block c (lt_of_heap hc) (by simp)).trans hc) (hn.same (u.block x.n hn.lt (by simp))) (hS.upd u hn.lt (by simp))
 have U:Hid (∀ n,Upd [] w ((((w.alloc (.cells #[.pointer (some ⟨sp.n,0,none⟩),.int .i64 sp.d,.int .i64 i] 140)).alloc (.cells #[.int .u64 0,.int .u64 0] 137)).alloc (.cells #[.int .u64 0,.int .u64 0] 137)).drewN n)):=u
 have P1:Hid (∀ n,PlAt ((((w.alloc (.cells #[.pointer (some ⟨sp.n,0,none⟩),.int .i64 sp.d,.int .i64 i] 140)).alloc (.cells #[.int .u64 0,.int .u64 0] 137)).alloc (.cells #[.int .u64 0,.int .u64 0] 137)).drewN n) (w.heap.size+1) (fun _=>false)):=by
  intro n
  refine plZ ?_
  show (((w.alloc (.cells #[.pointer (some ⟨sp.n,0,none⟩),.int .i64 sp.d,.int .i64 i] 140)).alloc (.cells #[.int .u64 0,.int .u64 0] 137)).alloc (.cells #[.int .u64 0,.int .u64 0] 137)).heap[_]?=_
  rw [Below.heap_alloc _ _ _ (by simp)]
  exact heap_new (by simp)
 have P2:Hid (∀ n,PlAt ((((w.alloc (.cells #[.pointer (some ⟨sp.n,0,none⟩),.int .i64 sp.d,.int .i64 i] 140)).alloc (.cells #[.int .u64 0,.int .u64 0] 137)).alloc (.cells #[.int .u64 0,.int .u64 0] 137)).drewN n) (w.heap.size+1+1) (fun _=>false)):=by
  intro n
  refine plZ ?_
  exact heap_new (by simp)
 clear h u
 unfold spotV ptr
 rw [hf]
 go_enter Tryz.func88,Tryz.ntmps88
 go_wp2_with fail
 go_quiet ((go_at_call 91;exact Calls.quiet_of (q _)))
 cases hb:(f t[i].toNat != a.not)
 ·go_wp2_with fail
  refine bodyPost_ret (v:=.agg #[.int .u64 0,.int .u64 0]) (by simp [results,Tryz.results88,go_sem]) rfl ?_
  refine⟨fun _=>false,by rw [plV_zero],by intro j;simp only [hb,Bool.false_and],?_⟩
  exact Upd.hide (q:=w.heap.size+1) (U.out _) (by (repeat (first|exact Upd.refl _ _|refine Upd.drewN ?_|refine Upd.drew ?_|refine Upd.setCell ?_ (by simp) _|refine Upd.alloc ?_ _))) (by omega)
 ·go_wp2_with fail
  rw [show ((i:Int)+1)=((i+1:Nat):Int) by omega]
  refine (mAdd_any _ _ (i+1) _ (P2.out _) (by omega)).mono ?_
  rintro e w2 ⟨rfl,u2,p2⟩
  obtain⟨g0,g1,gz⟩:=p2.facts
  obtain⟨k0,k1,kz⟩:=PlAt.facts ((u2.block (w.heap.size+1) (by simp) (by simp)).trans (P1.out _))
  have hz:=u2.size
  have HU:=(U.out nq).hide u2 (by omega)
  have U2:Hid (Upd [] w w2):=HU
  clear u2 p2 HU
  go_wp2_with fail
  refine bodyPost_ret (v:=.agg #[.int .u64 (word (fun x=>x == i+1) 0 64),.int .u64 (word (fun x=>x == i+1) 64 64)]) (by simp [results,Tryz.results88,go_sem,k0,k1,kz]) rfl ?_
  exact⟨fun x=>x == i+1,rfl,by intro j;simp only [hb,Bool.true_and],Upd.hide (q:=w.heap.size+1) U2.out (by (repeat (first|exact Upd.refl _ _|refine Upd.drewN ?_|refine Upd.drew ?_|refine Upd.setCell ?_ (by simp) _|refine Upd.alloc ?_ _))) (by omega)⟩
set_option maxHeartbeats 1600000 in
theorem mBBa_yes (s i:Nat) (sp:Spot) (t:ByteArray) (m:Option Nat) (w:World) (h:SrAt w s t m) (hi:i < t.size) (ht:t.size≤100) (hf:sp.f=i)  :
  Calls Tryz.prog 88 #[ptr s,spotV sp,.func (.func 90) #[] #[]] w (LeafOut i ((t[i].toNat:Int) != 10) w):=by
 obtain⟨d0,d1,d2,d3,d4,d5,d6,d7,d8,fy⟩:=h.facts
 have s0:=lt_of_heap h
 have s1:s < w.heap.size+1:=by omega
 have s2:s < w.heap.size+1+1:=by omega
 have s3:s < w.heap.size+1+1+1:=by omega
 have hi':(i:Int) < t.size:=by omega
 have hi2:(i:Int) < 100:=by omega
 have u:∀ n,Upd [] w ((((w.alloc (.cells #[.pointer (some ⟨sp.n,0,none⟩),.int .i64 sp.d,.int .i64 i] 140)).alloc (.cells #[.int .u64 0,.int .u64 0] 137)).alloc (.cells #[.int .u64 0,.int .u64 0] 137)).drewN n):=by intro n;(repeat (first|exact Upd.refl _ _|refine Upd.drewN ?_|refine Upd.drew ?_|refine Upd.setCell ?_ (by simp) _|refine Upd.alloc ?_ _))
 have q:∀ n,Calls Tryz.prog 90 #[.int .u8 t[i].toNat] ((((w.alloc (.cells #[.pointer (some ⟨sp.n,0,none⟩),.int .i64 sp.d,.int .i64 i] 140)).alloc (.cells #[.int .u64 0,.int .u64 0] 137)).alloc (.cells #[.int .u64 0,.int .u64 0] 137)).drewN n) fun e w'=>e=.returned (.bool ((t[i].toNat:Int) != 10))∧∃ m,w'=((((w.alloc (.cells #[.pointer (some ⟨sp.n,0,none⟩),.int .i64 sp.d,.int .i64 i] 140)).alloc (.cells #[.int .u64 0,.int .u64 0] 137)).alloc (.cells #[.int .u64 0,.int .u64 0] 137)).drewN n).drewN m:=by
  intro n
  have u:=u n
  exact (clA_any _ _).mono fun _ _ h=>⟨h.1,0,h.2⟩
 have U:Hid (∀ n,Upd [] w ((((w.alloc (.cells #[.pointer (some ⟨sp.n,0,none⟩),.int .i64 sp.d,.int .i64 i] 140)).alloc (.cells #[.int .u64 0,.int .u64 0] 137)).alloc (.cells #[.int .u64 0,.int .u64 0] 137)).drewN n)):=u
 have P1:Hid (∀ n,PlAt ((((w.alloc (.cells #[.pointer (some ⟨sp.n,0,none⟩),.int .i64 sp.d,.int .i64 i] 140)).alloc (.cells #[.int .u64 0,.int .u64 0] 137)).alloc (.cells #[.int .u64 0,.int .u64 0] 137)).drewN n) (w.heap.size+1) (fun _=>false)):=by
  intro n
  refine plZ ?_
  show (((w.alloc (.cells #[.pointer (some ⟨sp.n,0,none⟩),.int .i64 sp.d,.int .i64 i] 140)).alloc (.cells #[.int .u64 0,.int .u64 0] 137)).alloc (.cells #[.int .u64 0,.int .u64 0] 137)).heap[_]?=_
  rw [Below.heap_alloc _ _ _ (by simp)]
  exact heap_new (by simp)
 have P2:Hid (∀ n,PlAt ((((w.alloc (.cells #[.pointer (some ⟨sp.n,0,none⟩),.int .i64 sp.d,.int .i64 i] 140)).alloc (.cells #[.int .u64 0,.int .u64 0] 137)).alloc (.cells #[.int .u64 0,.int .u64 0] 137)).drewN n) (w.heap.size+1+1) (fun _=>false)):=by
  intro n
  refine plZ ?_
  exact heap_new (by simp)
 clear h u
 unfold spotV ptr
 rw [hf]
 go_enter Tryz.func88,Tryz.ntmps88
 go_wp2_with fail
 go_quiet ((go_at_call 90;exact Calls.quiet_of (q _)))
 cases hb:((t[i].toNat:Int) != 10)
 ·go_wp2_with fail
  refine bodyPost_ret (v:=.agg #[.int .u64 0,.int .u64 0]) (by simp [results,Tryz.results88,go_sem]) rfl ?_
  refine⟨fun _=>false,by rw [plV_zero],by intro j;simp only [hb,Bool.false_and],?_⟩
  exact Upd.hide (q:=w.heap.size+1) (U.out _) (by (repeat (first|exact Upd.refl _ _|refine Upd.drewN ?_|refine Upd.drew ?_|refine Upd.setCell ?_ (by simp) _|refine Upd.alloc ?_ _))) (by omega)
 ·go_wp2_with fail
  rw [show ((i:Int)+1)=((i+1:Nat):Int) by omega]
  refine (mAdd_any _ _ (i+1) _ (P2.out _) (by omega)).mono ?_
  rintro e w2 ⟨rfl,u2,p2⟩
  obtain⟨g0,g1,gz⟩:=p2.facts
  obtain⟨k0,k1,kz⟩:=PlAt.facts ((u2.block (w.heap.size+1) (by simp) (by simp)).trans (P1.out _))
  have hz:=u2.size
  have HU:=(U.out nq).hide u2 (by omega)
  have U2:Hid (Upd [] w w2):=HU
  clear u2 p2 HU
  go_wp2_with fail
  refine bodyPost_ret (v:=.agg #[.int .u64 (word (fun x=>x == i+1) 0 64),.int .u64 (word (fun x=>x == i+1) 64 64)]) (by simp [results,Tryz.results88,go_sem,k0,k1,kz]) rfl ?_
  exact⟨fun x=>x == i+1,rfl,by intro j;simp only [hb,Bool.true_and],Upd.hide (q:=w.heap.size+1) U2.out (by (repeat (first|exact Upd.refl _ _|refine Upd.drewN ?_|refine Upd.drew ?_|refine Upd.setCell ?_ (by simp) _|refine Upd.alloc ?_ _))) (by omega)⟩
end Go.Proofs.YtcpfpnjkfahjcaaGreat
