import Derived.Test.YtcpfpnjkfahjcaaGreatH38
import Derived.Deep.RegionHeld3
import Derived.Test.YtcpfpnjkfahjcaaGreatH34
set_option linter.unusedSimpArgs false
set_option linter.unusedVariables false
namespace Go.Proofs.YtcpfpnjkfahjcaaGreat
open Go.RowKit
set_option maxRecDepth 8000 in
set_option maxHeartbeats 1600000 in
theorem go_turn (x:WkFix) (hx:x.ok) (gs T k i j:Nat) (n:Sp.Nd) (hn:x.ns[k]?=some n) (hk:k < x.ns.length) (hij:i≤j) (hj:j≤x.S.size) (h0:n.kind=5) (a b:Nat) (ha:n.a=a) (hb:n.b=b) (la:a < x.ns.length) (lb:b < x.ns.length) (hz:i=j→(x.E k).g i j=[]) (hE:i < j→∃ c:Nat,cutV (fun c=>(x.E a).m i c && (x.E b).m c j) (i+1) j=c∧(x.E k).g i j=(x.E a).g i c++(x.E b).g c j∧GoC x gs T a i c∧GoC x gs T b c j):GoC x gs T k i j:=by
 intro w K f W
 obtain⟨r0,r1,r2,r3,r4,r5,r6⟩:=W.wk.cells
 obtain⟨c0,c1,c2,cs,cn⟩:=W.wk.rf.node hn
 have hle:=W.wk.rf.le
 have HW:Hid (GwAt x gs T w K f):=W
 have hk':(k:Int) < x.ns.length:=by omega
 have hsz:=hx.size
 have hln:=hx.len
 have HN:Hid (x.ns[k]?=some n):=hn
 have HW1:Hid (GwAt x gs T w.drew K f):=W.heap rfl
 have hne:=W.wk.ne.2.2
 have HGL:Hid (x.g < w.drew.heap.size):=by obtain⟨cur,r,_⟩:=W.wk.rf.row;exact lt_of_heap (w:=w.drew) r
 have Ha:Hid (n.a=a):=ha
 rw [h0] at c0
 rw [ha] at c1
 rw [hb] at c2
 have Hb:Hid (n.b=b):=hb
 by_cases he:i=j
 ·have HE:Hid ((x.E k).g i j=[]):=hz he
  have hlt:¬ (i:Int) < j:=by omega
  clear W cs cn hn hE hx hz ha he hb
  go_enter Tryz.func49,Tryz.ntmps49
  go_wp2_with fail
  go_end0
  exact⟨K,rfl,by rw [HE.out];exact HW.out,Upd.refl _ _⟩
 ·have hlt:(i:Int) < j:=by omega
  obtain⟨c,hc,hg,hA,hB⟩:=hE (by omega)
  have HE:Hid ((x.E k).g i j=(x.E a).g i c++(x.E b).g c j):=hg
  have HCUT:Hid (∀ w' K',x.at w' K'→KAll x K'→Calls Tryz.prog 65 #[.pointer (some ⟨x.q,0,none⟩),.int .i64 a,.int .i64 b,.int .i64 i,.int .i64 j,.int .i64 ((i+1:Nat):Int)] w' (KaOut x (.int .i64 c) w')):=fun w' K' h1 h2=>by rw [← hc];exact cut_right x hx a b i j (i+1) la lb hj (by omega) (by omega) w' K' h1 h2
  have HA:Hid (GoC x gs T a i c):=hA
  have HB:Hid (GoC x gs T b c j):=hB
  clear W cs cn hn hE hx hz ha he hc hg hA hB hb
  go_enter Tryz.func49,Tryz.ntmps49
  go_wp2_with fail
  refine (HCUT.out _ K HW.out.wk HW.out.all).mono ?_
  rintro e w2 ⟨K2,rfl,k2,g2,u2⟩
  have HW2:Hid (GwAt x gs T w2 K2 f):=HW.out.known u2 k2 g2
  have HU2:Hid (Upd [x.gk] w w2):=u2
  obtain⟨z0,z1,z2,zs,zn⟩:=(RkAt.known HW.out.wk u2 k2).rf.node HN.out
  rw [Ha.out] at z1
  clear k2 g2 u2 zs zn
  go_wp2_with fail
  refine (HA.out _ K2 f HW2.out).mono ?_
  rintro e w3 ⟨K3,rfl,W3,u3⟩
  have HW3:Hid (GwAt x gs T w3 K3 (Sp.puts f ((x.E a).g i c))):=W3
  have HU3:Hid (Upd [x.gk,gs] w w3):=(HU2.out.mono (by simp)).trans u3
  clear u3 W3
  go_wp2_with fail
  refine (HB.out _ K3 _ HW3.out).mono ?_
  rintro e w4 ⟨K4,rfl,W4,u4⟩
  have HW4:Hid (GwAt x gs T w4 K4 (Sp.puts (Sp.puts f ((x.E a).g i c)) ((x.E b).g c j))):=W4
  have HU4:Hid (Upd [x.gk,gs] w w4):=HU3.out.trans u4
  clear u4 W4
  go_wp2_with fail
  go_end0
  exact⟨K4,rfl,by rw [HE.out,Sp.puts_append];exact HW4.out,HU4.out⟩
set_option maxRecDepth 8000 in
set_option maxHeartbeats 1600000 in
theorem go_turns (x:WkFix) (hx:x.ok) (gs T k i j:Nat) (n:Sp.Nd) (hn:x.ns[k]?=some n) (hk:k < x.ns.length) (hij:i≤j) (hj:j≤x.S.size) (h0:n.kind=6) (a:Nat) (ha:n.a=a) (la:a < x.ns.length) (hz:i=j→(x.E k).g i j=[]) (hE:i < j→∃ c:Nat,cutV (fun c=>(x.E a).m i c && (x.E k).m c j) (i+1) j=c∧(x.E k).g i j=(x.E a).g i c++(x.E k).g c j∧GoC x gs T a i c∧GoC x gs T k c j):GoC x gs T k i j:=by
 intro w K f W
 obtain⟨r0,r1,r2,r3,r4,r5,r6⟩:=W.wk.cells
 obtain⟨c0,c1,c2,cs,cn⟩:=W.wk.rf.node hn
 have hle:=W.wk.rf.le
 have HW:Hid (GwAt x gs T w K f):=W
 have hk':(k:Int) < x.ns.length:=by omega
 have hsz:=hx.size
 have hln:=hx.len
 have HN:Hid (x.ns[k]?=some n):=hn
 have HW1:Hid (GwAt x gs T w.drew K f):=W.heap rfl
 have hne:=W.wk.ne.2.2
 have HGL:Hid (x.g < w.drew.heap.size):=by obtain⟨cur,r,_⟩:=W.wk.rf.row;exact lt_of_heap (w:=w.drew) r
 have Ha:Hid (n.a=a):=ha
 rw [h0] at c0
 rw [ha] at c1
 by_cases he:i=j
 ·have HE:Hid ((x.E k).g i j=[]):=hz he
  have hlt:¬ (i:Int) < j:=by omega
  clear W cs cn hn hE hx hz ha he
  go_enter Tryz.func49,Tryz.ntmps49
  go_wp2_with fail
  go_end0
  exact⟨K,rfl,by rw [HE.out];exact HW.out,Upd.refl _ _⟩
 ·have hlt:(i:Int) < j:=by omega
  obtain⟨c,hc,hg,hA,hB⟩:=hE (by omega)
  have HE:Hid ((x.E k).g i j=(x.E a).g i c++(x.E k).g c j):=hg
  have HCUT:Hid (∀ w' K',x.at w' K'→KAll x K'→Calls Tryz.prog 65 #[.pointer (some ⟨x.q,0,none⟩),.int .i64 a,.int .i64 k,.int .i64 i,.int .i64 j,.int .i64 ((i+1:Nat):Int)] w' (KaOut x (.int .i64 c) w')):=fun w' K' h1 h2=>by rw [← hc];exact cut_right x hx a k i j (i+1) la hk hj (by omega) (by omega) w' K' h1 h2
  have HA:Hid (GoC x gs T a i c):=hA
  have HB:Hid (GoC x gs T k c j):=hB
  clear W cs cn hn hE hx hz ha he hc hg hA hB
  go_enter Tryz.func49,Tryz.ntmps49
  go_wp2_with fail
  refine (HCUT.out _ K HW.out.wk HW.out.all).mono ?_
  rintro e w2 ⟨K2,rfl,k2,g2,u2⟩
  have HW2:Hid (GwAt x gs T w2 K2 f):=HW.out.known u2 k2 g2
  have HU2:Hid (Upd [x.gk] w w2):=u2
  obtain⟨z0,z1,z2,zs,zn⟩:=(RkAt.known HW.out.wk u2 k2).rf.node HN.out
  rw [Ha.out] at z1
  clear k2 g2 u2 zs zn
  go_wp2_with fail
  refine (HA.out _ K2 f HW2.out).mono ?_
  rintro e w3 ⟨K3,rfl,W3,u3⟩
  have HW3:Hid (GwAt x gs T w3 K3 (Sp.puts f ((x.E a).g i c))):=W3
  have HU3:Hid (Upd [x.gk,gs] w w3):=(HU2.out.mono (by simp)).trans u3
  clear u3 W3
  go_wp2_with fail
  refine (HB.out _ K3 _ HW3.out).mono ?_
  rintro e w4 ⟨K4,rfl,W4,u4⟩
  have HW4:Hid (GwAt x gs T w4 K4 (Sp.puts (Sp.puts f ((x.E a).g i c)) ((x.E k).g c j))):=W4
  have HU4:Hid (Upd [x.gk,gs] w w4):=HU3.out.trans u4
  clear u4 W4
  go_wp2_with fail
  go_end0
  exact⟨K4,rfl,by rw [HE.out,Sp.puts_append];exact HW4.out,HU4.out⟩
theorem cutV_of {p:Nat→Bool} {fr j c:Nat} (h:Sp.greatest p fr j=some c):cutV p fr j=c:=by unfold cutV;rw [h]
theorem cutB_get {A B:Nat→Nat→Bool} {lo i j:Nat} (h:Sp.cutB A B lo i j=true):∃ c,Sp.greatest (fun c=>A i c && B c j) lo j=some c∧lo≤c∧c≤j∧A i c=true∧B c j=true:=by
 unfold Sp.cutB at h
 obtain⟨c,hc⟩:=Option.isSome_iff_exists.mp h
 have r:=Sp.greatest_some hc
 have r3:=r.2.2.1
 simp at r3
 exact⟨c,hc,r.1,r.2.1,r3.1,r3.2⟩
theorem all_goes (x:WkFix) (hx:x.ok) (gs T:Nat) (hT:T≤1000) (hsv:x.sv=.slice (some ⟨gs,0,none⟩) T T) (hnum:∀ (k:Nat) (n:Sp.Nd),x.ns[k]?=some n→n.num < (T:Int)):∀ (m k i j:Nat),k < x.ns.length→i≤j→j≤x.S.size→(x.E k).m i j=true→kMs (x.S.size+1) k i j < m→GoC x gs T k i j
 | 0,_,_,_,_,_,_,_,h=>absurd h (by omega)
 | m+1,k,i,j,hk,hij,hj,ht,hm=>by
  have IH:∀ k' i' j',k' < x.ns.length→i'≤j'→j'≤x.S.size→(x.E k').m i' j'=true→kMs (x.S.size+1) k' i' j' < kMs (x.S.size+1) k i j→GoC x gs T k' i' j':=fun k' i' j' h1 h2 h3 h5 h4=>all_goes x hx gs T hT hsv hnum m k' i' j' h1 h2 h3 h5 (by omega)
  obtain⟨n,hn⟩:∃ n,x.ns[k]?=some n:=⟨_,List.getElem?_eq_getElem hk⟩
  rcases hx.mean k n hn with ⟨h0,hE⟩|⟨h0,hE⟩|⟨h0,a,b,ha,hb,la,lb,hE⟩|⟨h0,a,b,ha,hb,la,lb,hE⟩|⟨h0,a,q,ha,hq,la,hE⟩|⟨h0,a,b,ha,hb,la,lb,hE⟩|⟨h0,a,ha,la,hE⟩
  ·exact go_leaf x hx gs T k i j n hn hk hij hj (Or.inl h0) ((hE i j hij).2 ht)
  ·exact go_leaf x hx gs T k i j n hn hk hij hj (Or.inr h0) ((hE i j hij).2 ht)
  ·obtain⟨e1,e2⟩:=hE i j hij
   rw [ht] at e1
   obtain⟨c,g1,g2,g3,g4,g5⟩:=cutB_get e1.symm
   exact go_pair x hx gs T k i j n hn hk hij hj h0 a b c ha hb (by omega) (by omega) (cutV_of g1) (e2 c g1) (IH a i c (by omega) g2 (by omega) g4 (kMs_less la (by omega))) (IH b c j (by omega) g3 hj g5 (kMs_less lb hj))
  ·obtain⟨e1,e2⟩:=hE i j hij
   rw [ht] at e1
   refine go_eith x hx gs T k i j n hn hk hij hj h0 a b ha hb (by omega) (by omega) (e2 ht) (fun h=>IH a i j (by omega) hij hj h (kMs_less la hj)) (fun h=>IH b i j (by omega) hij hj ?_ (kMs_less lb hj))
   rw [h] at e1;simpa using e1.symm
  ·obtain⟨e1,e2⟩:=hE i j hij
   have hlt:=hnum k n hn
   exact go_grp x hx gs T k i j n hn hk hij hj h0 a q ha hq (by omega) hT hsv (e2 ht) (IH a i j (by omega) hij hj (by rw [← e1];exact ht) (kMs_less la hj))
  ·obtain⟨e1,e2,e3⟩:=hE i j hij
   refine go_turn x hx gs T k i j n hn hk hij hj h0 a b ha hb (by omega) (by omega) e2 (fun hlt=>?_)
   have hne:(i == j)=false:=beq_eq_false_iff_ne.mpr (by omega)
   rw [ht,hne,Bool.false_or] at e1
   obtain⟨c,g1,g2,g3,g4,g5⟩:=cutB_get e1.symm
   exact⟨c,cutV_of g1,e3 c hlt g1,IH a i c (by omega) (by omega) (by omega) g4 (kMs_less la (by omega)),IH b c j (by omega) g3 hj g5 (kMs_less lb hj)⟩
  ·obtain⟨e1,e2,e3⟩:=hE i j hij
   refine go_turns x hx gs T k i j n hn hk hij hj h0 a ha (by omega) e2 (fun hlt=>?_)
   have hne:(i == j)=false:=beq_eq_false_iff_ne.mpr (by omega)
   rw [ht,hne,Bool.false_or] at e1
   obtain⟨c,g1,g2,g3,g4,g5⟩:=cutB_get e1.symm
   exact⟨c,cutV_of g1,e3 c hlt g1,IH a i c (by omega) (by omega) (by omega) g4 (kMs_less la (by omega)),IH k c j hk g3 hj g5 (kMs_turn g2 g3)⟩
theorem goes_any (x:WkFix) (hx:x.ok) (gs T:Nat) (hT:T≤1000) (hsv:x.sv=.slice (some ⟨gs,0,none⟩) T T) (hnum:∀ (k:Nat) (n:Sp.Nd),x.ns[k]?=some n→n.num < (T:Int)) (k i j:Nat) (hk:k < x.ns.length) (hij:i≤j) (hj:j≤x.S.size) (ht:(x.E k).m i j=true):GoC x gs T k i j:=all_goes x hx gs T hT hsv hnum _ k i j hk hij hj ht (Nat.lt_succ_self _)
theorem rInfoU8:∃ i,Tryz.prog.info? 5=some i∧i.zero=some (.int .u8 0)∧i.size=1∧i.bytes=1:=by
 have h:(Tryz.prog.info? 5).map (fun i=>(i.zero,i.size,i.bytes))=some (some (.int .u8 0),1,1):=by kernel_rfl
 cases hi:Tryz.prog.info? 5 with
 | none=>rw [hi] at h;cases h
 | some i=>
  rw [hi] at h
  simp only [Option.map_some,Option.some.injEq,Prod.mk.injEq] at h
  exact⟨i,rfl,h.1,h.2.1,h.2.2⟩
theorem mkKnown (m:Nat) (hm:m≤100000000000) (w:World):(Instr.makeSlice 97 (.int .i64 (m:Int)) (.int .i64 (m:Int))).run Tryz.prog w=.ok (.slice (some ⟨w.heap.size,0,none⟩) m m) (w.alloc (.cells (madeCells #[.int .u8 0] m) 5)):=by
 obtain⟨i,h1,h2,h3,h4⟩:=rInfoU8
 have:=run_make w 97 5 i _ Tryz.underlying97 h1 h2 .i64 .i64 (m:Int) (m:Int) (by omega) (by omega) (by rw [h4];omega) (by omega)
 rw [this,h3]
 simp
 rfl
theorem made_at (m q:Nat) (h:q < m):(madeCells #[Value.int .u8 0] m)[q]?=some (.int .u8 0):=by
 unfold madeCells
 simp [h,Nat.mod_one]
set_option maxRecDepth 8000 in
set_option maxHeartbeats 1600000 in
theorem rWork_any (p g:Nat) (ns:List Sp.Nd) (cap:Nat) (top told:Int) (S:ByteArray) (w:World) (hS:S.size≤100) (hl:ns.length≤1000000) (R:RfAt w p g ns cap top told):Calls Tryz.prog 27 #[.pointer (some ⟨p,0,none⟩),.string S] w fun e w'=>∃ q gk,e=.returned (.pointer (some ⟨q,0,none⟩))∧w.heap.size≤gk∧w.heap.size≤q∧RkAt w' q p g gk ns cap top told S (ns.length * (S.size+1) * (S.size+1)) (.slice none 0 0) (fun _=>0)∧Upd [] w w':=by
 have p0:w.cell? ⟨p,0,none⟩=some (.slice (some ⟨g,0,none⟩) ns.length cap):=by rw [World.cell?,R.block];rfl
 have HR:Hid (RfAt w p g ns cap top told):=R
 obtain⟨A,hA⟩:∃ A,A=ns.length * (S.size+1):=⟨_,rfl⟩
 obtain⟨N,hN⟩:∃ N,N=A * (S.size+1):=⟨_,rfl⟩
 have e1:(ns.length:Int) * ((S.size:Int)+1)=A:=by rw [hA];simp
 have e2:(A:Int) * ((S.size:Int)+1)=N:=by rw [hN];simp
 have bA:A≤101000000:=by rw [hA];have:=Nat.mul_le_mul hl (show S.size+1≤101 by omega);omega
 have bN:N≤100000000000:=by rw [hN];have:=Nat.mul_le_mul bA (show S.size+1≤101 by omega);omega
 have HN:Hid (N=ns.length * (S.size+1) * (S.size+1)):=by show _=_;rw [hN,hA]
 have hmk:=mkKnown N bN
 clear R hA hN
 go_enter Tryz.func27,Tryz.ntmps27
 go_wp2_with fail
 go_ret
 have hz:w.heap.size < (w.alloc (.cells (madeCells #[.int .u8 0] N) 5)).heap.size:=by show w.heap.size < (w.heap.push _).size;simp
 have u:Upd [] w ((w.alloc (.cells (madeCells #[.int .u8 0] N) 5)).alloc (.cells #[.pointer (some ⟨p,0,none⟩),.string S,.slice (some ⟨w.heap.size,0,none⟩) N N,.slice none 0 0] 132)):=Upd.alloc (Upd.alloc (Upd.refl _ _) _) _
 refine⟨w.heap.size+1,w.heap.size,rfl,Nat.le_refl _,by omega,⟨?_,?_,?_⟩,u⟩
 ·rw [← HN.out];exact heap_new (by show w.heap.size+1=(w.heap.push _).size;simp)
 ·obtain⟨cur,d1,d2⟩:=HR.out.row
  exact⟨(u.block p (lt_of_heap HR.out.block) (by simp)).trans HR.out.block,⟨cur,(u.block g (lt_of_heap d1) (by simp)).trans d1,d2⟩,HR.out.le⟩
 ·rw [← HN.out]
  exact⟨madeCells #[.int .u8 0] N,(Below.heap_alloc _ _ _ hz).trans (heap_new rfl),by rw [size_madeCells],fun q hq=>made_at N q hq⟩
def WkFix.with (x:WkFix) (v:Value):WkFix:={ x with sv:=v }
theorem RkAt.spansTo {w w':World} {q p g gk:Nat} {ns:List Sp.Nd} {cap:Nat} {top told:Int} {S:ByteArray} {N:Nat} {sv v:Value} {K:Nat→Nat} (h:RkAt w q p g gk ns cap top told S N sv K) (u:Upd [q] w w') (hb:w'.heap[q]?=some (.cells #[.pointer (some ⟨p,0,none⟩),.string S,.slice (some ⟨gk,0,none⟩) N N,v] 132 (0,0))):RkAt w' q p g gk ns cap top told S N v K:=by
 have hq:=h.block
 have ne:∀ {k:Nat} {a:Array Value} {T:TypeId},w.heap[k]?=some (.cells a T (0,0))→T≠132→k∉[q]:=fun {k a T} hk hT hm=>by
  have e:k=q:=by simpa using hm
  subst e
  rw [hk] at hq
  injection hq with hq
  injection hq with _ hq _
  exact hT hq
 obtain⟨c2,d1,d2⟩:=h.rf.row
 obtain⟨cur,e1,e2,e3⟩:=h.kn
 exact⟨hb,⟨(u.block p (lt_of_heap h.rf.block) (ne h.rf.block (by decide))).trans h.rf.block,⟨c2,(u.block g (lt_of_heap d1) (ne d1 (by decide))).trans d1,d2⟩,h.rf.le⟩,⟨cur,(u.block gk (lt_of_heap e1) (ne e1 (by decide))).trans e1,e2,e3⟩⟩
structure SwInv (x:WkFix) (gs T:Nat) (w:World) (K:Nat→Nat) (gn:Nat) (vi:Value) (wr:World):Prop where
 st:∃ c:Nat,vi=.int .i64 c∧c+gn=T∧GwAt x gs T wr K (fun k=>if k < c then (-1,-1) else (0,0))∧Upd [x.q] w wr
set_option maxRecDepth 8000 in
set_option maxHeartbeats 1600000 in
theorem wSpans_any (x:WkFix) (hx:x.ok) (m to tp:Nat) (w:World) (K:Nat→Nat) (W:x.at w K) (G:KAll x K) (hm:m≤100) (hto:to≤x.S.size) (htold:x.told=m) (htop:x.top=tp) (htp:tp < x.ns.length) (hmt:(x.E tp).m 0 to=true) (hnum:∀ (k:Nat) (n:Sp.Nd),x.ns[k]?=some n→n.num < ((m+1:Nat):Int)):Calls Tryz.prog 29 #[.pointer (some ⟨x.q,0,none⟩),.int .i64 to] w fun e w'=>∃ gs,e=.returned (.slice (some ⟨gs,0,none⟩) (m+1) (m+1))∧w.heap.size≤gs∧SpansAt w' gs (m+1) (Sp.spansOf ((x.E tp).g 0 to) to)∧Upd [x.q,x.gk] w w':=by
 obtain⟨r0,r1,r2,r3,r4,r5,r6⟩:=W.cells
 rw [htold] at r6
 rw [htop] at r5
 have HW:Hid (x.at w K):=W
 have HG:Hid (KAll x K):=G
 have hqlt:=lt_of_heap W.block
 have fq:w.frozen? ⟨x.q,3,none⟩=false:=by rw [World.frozen?,W.block];rfl
 have hmk:∀ w',(Instr.makeSlice 37 (.int .i64 ((m:Int)+1)) (.int .i64 ((m:Int)+1))).run Tryz.prog w'=.ok (.slice (some ⟨w'.heap.size,0,none⟩) (m+1) (m+1)) (w'.alloc (.cells (spArr (m+1) (fun _=>(0,0))) 66)):=mkSpans m hm
 have hne:¬ x.q=w.heap.size:=by omega
 clear W G
 go_enter Tryz.func29,Tryz.ntmps29
 go_wp2_with fail
 obtain⟨gs,hgs⟩:∃ gs,w.heap.size=gs:=⟨_,rfl⟩
 have START:SwInv (x.with (.slice (some ⟨w.heap.size,0,none⟩) (m+1) (m+1))) w.heap.size (m+1) w K (m+1) (.int .i64 0) ((w.setCell ⟨x.q,3,none⟩ (.slice (some ⟨w.heap.size,0,none⟩) (m+1) (m+1))).alloc (.cells (spArr (m+1) (fun _=>(0,0))) 66)):=by
  have u:Upd [x.q] w ((w.setCell ⟨x.q,3,none⟩ (.slice (some ⟨w.heap.size,0,none⟩) (m+1) (m+1))).alloc (.cells (spArr (m+1) (fun _=>(0,0))) 66)):=Upd.alloc (Upd.setCell (Upd.refl _ _) (by simp) _) _
  have hz:(w.setCell ⟨x.q,3,none⟩ (.slice (some ⟨w.heap.size,0,none⟩) (m+1) (m+1))).heap.size=w.heap.size:=by simp [World.setCell]
  refine⟨0,rfl,by omega,⟨?_,HG.out,?_⟩,u⟩
  ·refine RkAt.spansTo HW.out u ?_
   exact (Below.heap_alloc _ _ _ (by rw [hz];exact hqlt)).trans (heap_set HW.out.block 3 _)
  ·have:SpansAt ((w.setCell ⟨x.q,3,none⟩ (.slice (some ⟨w.heap.size,0,none⟩) (m+1) (m+1))).alloc (.cells (spArr (m+1) (fun _=>(0,0))) 66)) w.heap.size (m+1) (fun _=>(0,0)):=heap_new hz.symm
   exact this.congr (fun c _=>by simp)
 have HST:Hid (SwInv (x.with (.slice (some ⟨w.heap.size,0,none⟩) (m+1) (m+1))) w.heap.size (m+1) w K (m+1) (.int .i64 0) ((w.setCell ⟨x.q,3,none⟩ (.slice (some ⟨w.heap.size,0,none⟩) (m+1) (m+1))).alloc (.cells (spArr (m+1) (fun _=>(0,0))) 66))):=START
 have HGS:Hid (w.heap.size=gs):=hgs
 clear START hne hmk
 rw [hgs] at HST ⊢
 clear hgs
 have HXO:Hid (x.with (.slice (some ⟨gs,0,none⟩) (m+1) (m+1))).ok:=⟨hx.size,hx.len,hx.n,hx.mean⟩
 have hsz:=hx.size
 have hln:=hx.len
 have HNUM:Hid (∀ (k:Nat) (n:Sp.Nd),x.ns[k]?=some n→n.num < ((m+1:Nat):Int)):=hnum
 clear r0 r1 r2 r3 r4 r5 r6 fq hnum hx
 go_loopg [5] (m+1) (fun gn vi wr=>SwInv (x.with (.slice (some ⟨gs,0,none⟩) (m+1) (m+1))) gs (m+1) w K gn vi wr)
 case atStart=>exact HST.out
 case round=>
  obtain⟨c,hvi,hcg,hW,hU⟩:=hrel.st
  subst hvi
  obtain⟨r0,r1,r2,r3,r4,r5,r6⟩:=hW.wk.cells
  obtain⟨s0,s1,fz⟩:=hW.sp.facts
  have HW:Hid (GwAt (x.with (.slice (some ⟨gs,0,none⟩) (m+1) (m+1))) gs (m+1) wr K (fun k=>if k < c then (-1,-1) else (0,0))):=hW
  have HU:Hid (Upd [x.q] w wr):=hU
  have hnq:¬ x.q=gs:=hW.ne.2.1
  have hnp:¬ x.p=gs:=hW.ne.2.2.1
  have hnq':¬ gs=x.q:=fun e=>hnq e.symm
  have q0:wr.cell? ⟨x.q,0,none⟩=some (.pointer (some ⟨x.p,0,none⟩)):=r0
  have q3:wr.cell? ⟨x.q,3,none⟩=some (.slice (some ⟨gs,0,none⟩) (m+1) (m+1)):=r3
  have q5:wr.cell? ⟨x.p,1,none⟩=some (.int .i64 tp):=by rw [← htop];exact r5
  clear hW hU r0 r1 r2 r3 r4 r5 r6
  by_cases hlt:c < m+1
  ·obtain⟨gm,hgm⟩:∃ q,gk=q+1:=⟨gk - 1,by omega⟩
   have hlt':(c:Int) < (m:Int)+1:=by omega
   have e0:=s0 c hlt
   have e1:=s1 c hlt
   have RL:Hid (SwInv (x.with (.slice (some ⟨gs,0,none⟩) (m+1) (m+1))) gs (m+1) w K gm (.int .i64 ((c+1:Nat):Int)) ((wr.setCell ⟨gs,c * 2,none⟩ (.int .i64 (-1))).setCell ⟨gs,c * 2+1,none⟩ (.int .i64 (-1)))):=by
    have u:Upd [gs] wr ((wr.setCell ⟨gs,c * 2,none⟩ (.int .i64 (-1))).setCell ⟨gs,c * 2+1,none⟩ (.int .i64 (-1))):=Upd.setCell (Upd.setCell (Upd.refl _ _) (by simp) _) (by simp) _
    refine⟨c+1,rfl,by omega,HW.out.spans u ((HW.out.sp.put c hlt (-1) (-1)).congr (fun k hk=>?_)),⟨u.os.trans HU.out.os,u.tape.trans HU.out.tape,u.output.trans HU.out.output,Nat.le_trans HU.out.size u.size,fun k hk hn=>(u.block k (Nat.lt_of_lt_of_le hk HU.out.size) (by have:=HGS.out;simp;omega)).trans (HU.out.block k hk hn)⟩⟩
    by_cases h1:k=c
    ·subst h1;simp
    ·rw [if_neg h1]
     by_cases h2:k < c
     ·rw [if_pos h2,if_pos (by omega)]
     ·rw [if_neg h2,if_neg (by omega)]
   clear s0 s1
   go_wp2_with fail
   go_roundg gm
   case measure=>omega
   case rel=>exact RL.out
  ·have hlt':¬ (c:Int) < (m:Int)+1:=by omega
   have e0:=s0 0 (by omega)
   have e1:=s1 0 (by omega)
   clear s0 s1
   have HW2:Hid (GwAt (x.with (.slice (some ⟨gs,0,none⟩) (m+1) (m+1))) gs (m+1) ((wr.setCell ⟨gs,0,none⟩ (.int .i64 0)).setCell ⟨gs,1,none⟩ (.int .i64 to)) K (Sp.put Sp.nowh (0,0,to))):=by
    have u:Upd [gs] wr ((wr.setCell ⟨gs,0,none⟩ (.int .i64 0)).setCell ⟨gs,1,none⟩ (.int .i64 to)):=Upd.setCell (Upd.setCell (Upd.refl _ _) (by simp) _) (by simp) _
    refine HW.out.spans u ((HW.out.sp.put 0 (by omega) 0 to).congr (fun k hk=>?_))
    unfold Sp.put Sp.nowh
    by_cases h1:k=0
    ·subst h1;simp
    ·rw [if_neg h1,if_neg h1,if_pos (by omega)]
   have HU2:Hid (Upd [x.q] w ((wr.setCell ⟨gs,0,none⟩ (.int .i64 0)).setCell ⟨gs,1,none⟩ (.int .i64 to))):=by
    have u:Upd [gs] wr ((wr.setCell ⟨gs,0,none⟩ (.int .i64 0)).setCell ⟨gs,1,none⟩ (.int .i64 to)):=Upd.setCell (Upd.setCell (Upd.refl _ _) (by simp) _) (by simp) _
    exact⟨u.os.trans HU.out.os,u.tape.trans HU.out.tape,u.output.trans HU.out.output,Nat.le_trans HU.out.size u.size,fun k hk hn=>(u.block k (Nat.lt_of_lt_of_le hk HU.out.size) (by have:=HGS.out;simp;omega)).trans (HU.out.block k hk hn)⟩
   have HGO:Hid (GoC (x.with (.slice (some ⟨gs,0,none⟩) (m+1) (m+1))) gs (m+1) tp 0 to):=goes_any (x.with (.slice (some ⟨gs,0,none⟩) (m+1) (m+1))) HXO.out gs (m+1) (by omega) rfl HNUM.out tp 0 to htp (Nat.zero_le _) hto hmt
   go_wp2_with fail
   refine (HGO.out _ K _ HW2.out).mono ?_
   rintro e w3 ⟨K3,rfl,W3,u3⟩
   have HO:Hid (w.heap.size≤gs∧SpansAt w3 gs (m+1) (Sp.spansOf ((x.E tp).g 0 to) to)∧Upd [x.q,x.gk] w w3):=by
    have u3':Upd [x.gk,gs] ((wr.setCell ⟨gs,0,none⟩ (.int .i64 0)).setCell ⟨gs,1,none⟩ (.int .i64 to)) w3:=u3
    exact⟨Nat.le_of_eq HGS.out,W3.sp,⟨u3'.os.trans HU2.out.os,u3'.tape.trans HU2.out.tape,u3'.output.trans HU2.out.output,Nat.le_trans HU2.out.size u3'.size,fun k hk hn=>(u3'.block k (Nat.lt_of_lt_of_le hk HU2.out.size) (by have:=HGS.out;simp at hn ⊢;omega)).trans (HU2.out.block k hk (by simp at hn ⊢;exact hn.1))⟩⟩
   obtain⟨t0,t1,t2,t3,t4,t5,t6⟩:=W3.wk.cells
   have y3:w3.cell? ⟨x.q,3,none⟩=some (.slice (some ⟨gs,0,none⟩) (m+1) (m+1)):=t3
   clear t0 t1 t2 t3 t4 t5 t6 W3 u3
   go_wp2_with fail
   go_ret
   exact⟨gs,rfl,HO.out⟩
structure RfPat (w:World) (p:Nat) (s:ByteArray) (t:Tr) (n:Nat):Prop where
 read:Sp.read s=.ok (t,(n:Int))
 len:(Sp.comp t ⟨[],0⟩).1.ns.length≤1000000
 rf:∃ g cap,RfAt w p g (Sp.comp t ⟨[],0⟩).1.ns cap (Sp.comp t ⟨[],0⟩).2 n
 nine:n≤9
theorem RfAt.upd {w w':World} {p g cap:Nat} {ns:List Sp.Nd} {top told:Int} (h:RfAt w p g ns cap top told) (u:Upd [] w w'):RfAt w' p g ns cap top told:=by
 obtain⟨cur,d1,d2⟩:=h.row
 exact⟨(u.block p (lt_of_heap h.block) (by simp)).trans h.block,⟨cur,(u.block g (lt_of_heap d1) (by simp)).trans d1,d2⟩,h.le⟩
theorem RfPat.upd {w w':World} {p n:Nat} {s:ByteArray} {t:Tr} (h:RfPat w p s t n) (u:Upd [] w w'):RfPat w' p s t n:=by
 obtain⟨g,cap,r⟩:=h.rf
 exact⟨h.read,h.len,⟨g,cap,r.upd u⟩,h.nine⟩
structure RfX (x:WkFix) (tp n:Nat) (t:Tr) (S:ByteArray):Prop where
 ok:x.ok
 s:x.S=S
 told:x.told=n
 top:x.top=tp
 lt:tp < x.ns.length
 sem:Sp.SemEq (x.E tp) (Sp.sem S t)
 num:∀ (k:Nat) (m:Sp.Nd),x.ns[k]?=some m→m.num < ((n+1:Nat):Int)
theorem KAll.zero (x:WkFix):KAll x (fun _=>0):=fun _ _ _ _ _ _ _ _=>Or.inl rfl
theorem Upd.fresh2 {w w1 w2:World} {a b:Nat} (u:Upd [] w w1) (h:Upd [a,b] w1 w2) (ha:w.heap.size≤a) (hb:w.heap.size≤b):Upd [] w w2:=
 ⟨h.os.trans u.os,h.tape.trans u.tape,h.output.trans u.output,Nat.le_trans u.size h.size,fun k hk hn=>(h.block k (Nat.lt_of_lt_of_le hk u.size) (by simp;omega)).trans (u.block k hk hn)⟩
theorem Upd.fresh1 {w w1 w2:World} {a:Nat} (u:Upd [] w w1) (h:Upd [a] w1 w2) (ha:w.heap.size≤a):Upd [] w w2:=
 ⟨h.os.trans u.os,h.tape.trans u.tape,h.output.trans u.output,Nat.le_trans u.size h.size,fun k hk hn=>(h.block k (Nat.lt_of_lt_of_le hk u.size) (by simp;omega)).trans (u.block k hk hn)⟩
theorem work_made (p n:Nat) (s:ByteArray) (t:Tr) (S:ByteArray) (w:World) (hS:S.size≤100) (R:RfPat w p s t n):∃ tp:Nat,(Sp.comp t ⟨[],0⟩).2=tp∧Calls Tryz.prog 27 #[.pointer (some ⟨p,0,none⟩),.string S] w fun e w'=>∃ x:WkFix,e=.returned (.pointer (some ⟨x.q,0,none⟩))∧x.p=p∧RfX x tp n t S∧x.at w' (fun _=>0)∧w.heap.size≤x.q∧w.heap.size≤x.gk∧Upd [] w w':=by
 obtain⟨E,tp,e1,e2,e3,e4⟩:=Sp.read_means R.read S
 obtain⟨g,cap,r⟩:=R.rf
 refine⟨tp,e2,(rWork_any p g _ cap _ _ S w hS R.len r).mono ?_⟩
 rintro e w' ⟨q,gk,rfl,h1,h2,h3,u⟩
 refine⟨⟨q,p,g,gk,_,cap,_,_,S,_,.slice none 0 0,E⟩,rfl,rfl,⟨⟨hS,R.len,rfl,e1⟩,rfl,rfl,e2,e3,e4,fun k m hk=>?_⟩,h3,h2,h1,u⟩
 have:=Sp.read_numle R.read m (List.mem_of_getElem? hk)
 omega
set_option maxRecDepth 8000 in
set_option maxHeartbeats 1600000 in
theorem rMatch_any (p n:Nat) (s:ByteArray) (t:Tr) (S:ByteArray) (w:World) (hS:S.size≤100) (R:RfPat w p s t n):Calls Tryz.prog 9 #[.pointer (some ⟨p,0,none⟩),.string S] w (MatchOut (n+1) (wholeS t S) w):=by
 obtain⟨tp,htp,hwk⟩:=work_made p n s t S w hS R
 have HWK:Hid (Calls Tryz.prog 27 #[.pointer (some ⟨p,0,none⟩),.string S] w fun e w'=>∃ x:WkFix,e=.returned (.pointer (some ⟨x.q,0,none⟩))∧x.p=p∧RfX x tp n t S∧x.at w' (fun _=>0)∧w.heap.size≤x.q∧w.heap.size≤x.gk∧Upd [] w w'):=hwk
 have hn:=R.nine
 have hS':¬ (100:Int) < S.size:=by omega
 clear hwk R
 go_enter Tryz.func9,Tryz.ntmps9
 go_wp2_with fail
 refine HWK.out.mono ?_
 rintro e w1 ⟨x,rfl,hxp,X,W,hq,hgk,u1⟩
 have HX:Hid (RfX x tp n t S):=X
 have HW:Hid (x.at w1 (fun _=>0)):=W
 have U1:Hid (Upd [] w w1):=u1
 obtain⟨r0,r1,r2,r3,r4,r5,r6⟩:=W.cells
 have p1:w1.cell? ⟨p,1,none⟩=some (.int .i64 tp):=by rw [← hxp,← X.top];exact r5
 have HSX:Hid (x.S=S):=X.s
 clear X W u1 r0 r1 r2 r3 r4 r5 r6
 go_wp2_with fail
 have HCAN:Calls Tryz.prog 28 #[.pointer (some ⟨x.q,0,none⟩),.int .i64 tp,.int .i64 ((0:Nat):Int),.int .i64 S.size] w1 (KaOut x (.bool ((x.E tp).m 0 S.size)) w1):=can_right x HX.out.ok tp 0 S.size HX.out.lt (Nat.zero_le _) (by rw [HSX.out];exact Nat.le_refl _) w1 _ HW.out (KAll.zero x)
 refine HCAN.mono ?_
 clear HCAN
 rintro e w2 ⟨K2,rfl,k2,g2,u2⟩
 have HW2:Hid (x.at w2 K2):=RkAt.known HW.out u2 k2
 have HG2:Hid (KAll x K2):=g2
 have U2:Hid (Upd [] w w2):=U1.out.fresh1 u2 hgk
 have hmm:(x.E tp).m 0 S.size=(Sp.sem S t).m 0 S.size:=(HX.out.sem 0 S.size (Nat.zero_le _)).1
 clear k2 g2 u2
 rw [hmm]
 cases hm:(Sp.sem S t).m 0 S.size with
 | false=>
  have HR:Hid (wholeS t S=none):=by show _=_;unfold wholeS;rw [hm];rfl
  go_wp2_with fail
  go_ret2
  exact MatchOut.mk_no HR.out U2.out rfl
 | true=>
  have HR:Hid (wholeS t S=some (Sp.spansOf ((Sp.sem S t).g 0 S.size) S.size)):=by show _=_;unfold wholeS;rw [hm];rfl
  have hg:Hid ((x.E tp).g 0 S.size=(Sp.sem S t).g 0 S.size):=(HX.out.sem 0 S.size (Nat.zero_le _)).2 hm
  have HM:Hid ((x.E tp).m 0 S.size=true):=by show _=_;rw [hmm,hm]
  clear hmm
  go_wp2_with fail
  refine (wSpans_any x HX.out.ok n S.size tp _ K2 HW2.out HG2.out (by omega) (by rw [HSX.out];exact Nat.le_refl _) HX.out.told HX.out.top HX.out.lt HM.out HX.out.num).mono ?_
  rintro e w3 ⟨gs,rfl,h1,h2,u3⟩
  have HO:Hid (w.heap.size≤gs∧SpansAt w3 gs (n+1) (Sp.spansOf ((Sp.sem S t).g 0 S.size) S.size)∧Upd [] w w3):=⟨Nat.le_trans U2.out.size h1,by rw [← hg.out];exact h2,U2.out.fresh2 u3 hq hgk⟩
  clear h1 h2 u3
  go_wp2_with fail
  go_ret2
  exact MatchOut.mk_yes HR.out HO.out.2.2 ⟨gs,HO.out.1,rfl,HO.out.2.1⟩
end Go.Proofs.YtcpfpnjkfahjcaaGreat
