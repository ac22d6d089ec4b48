import Derived.Test.YtcpfpnjkfahjcaaGreatH37
import Derived.Deep.RegionHeld3
set_option linter.unusedSimpArgs false
set_option linter.unusedVariables false
namespace Go.Proofs.YtcpfpnjkfahjcaaGreat
open Go.RowKit
structure GwAt (x:WkFix) (gs T:Nat) (w:World) (K:Nat→Nat) (f:Nat→Int×Int):Prop where
 wk:x.at w K
 all:KAll x K
 sp:SpansAt w gs T f
def GoOut (x:WkFix) (gs T:Nat) (f:Nat→Int×Int) (w:World) (e:Ending) (w':World):Prop:=∃ K',e=.returned (.tuple #[])∧GwAt x gs T w' K' f∧Upd [x.gk,gs] w w'
def GoC (x:WkFix) (gs T k i j:Nat):Prop:=∀ w K f,GwAt x gs T w K f→Calls Tryz.prog 49 #[.pointer (some ⟨x.q,0,none⟩),.int .i64 k,.int .i64 i,.int .i64 j] w (GoOut x gs T (Sp.puts f ((x.E k).g i j)) w)
theorem GwAt.ne {x:WkFix} {gs T:Nat} {w:World} {K:Nat→Nat} {f:Nat→Int×Int} (h:GwAt x gs T w K f):gs≠x.gk∧x.q≠gs∧x.p≠gs∧x.g≠gs:=by
 have hs:=h.sp
 unfold SpansAt at hs
 have ne:∀ {k:Nat} {a:Array Value} {T:TypeId},w.heap[k]?=some (.cells a T (0,0))→T≠66→k≠gs:=fun {k a T} hk hT hm=>by
  subst hm
  rw [hk] at hs
  injection hs with hs
  injection hs with _ hs _
  exact hT hs
 obtain⟨c2,d1,d2⟩:=h.wk.rf.row
 obtain⟨cur,e1,_⟩:=h.wk.kn
 exact⟨fun e=>ne e1 (by decide) e.symm,ne h.wk.block (by decide),ne h.wk.rf.block (by decide),ne d1 (by decide)⟩
theorem GwAt.known {x:WkFix} {gs T:Nat} {w w':World} {K K':Nat→Nat} {f:Nat→Int×Int} (h:GwAt x gs T w K f) (u:Upd [x.gk] w w') (k:KnAt w' x.gk x.N K') (g:KAll x K'):GwAt x gs T w' K' f:=
 ⟨RkAt.known h.wk u k,g,(u.block gs (lt_of_heap h.sp) (by simpa using h.ne.1)).trans h.sp⟩
theorem GwAt.spans {x:WkFix} {gs T:Nat} {w w':World} {K:Nat→Nat} {f f':Nat→Int×Int} (h:GwAt x gs T w K f) (u:Upd [gs] w w') (k:SpansAt w' gs T f'):GwAt x gs T w' K f':=by
 obtain⟨n1,n2,n3,n4⟩:=h.ne
 obtain⟨c2,d1,d2⟩:=h.wk.rf.row
 obtain⟨cur,e1,e2,e3⟩:=h.wk.kn
 exact⟨⟨(u.block x.q (lt_of_heap h.wk.block) (by simpa using n2)).trans h.wk.block,⟨(u.block x.p (lt_of_heap h.wk.rf.block) (by simpa using n3)).trans h.wk.rf.block,⟨c2,(u.block x.g (lt_of_heap d1) (by simpa using n4)).trans d1,d2⟩,h.wk.rf.le⟩,⟨cur,(u.block x.gk (lt_of_heap e1) (by simp;exact fun e=>n1 e.symm)).trans e1,e2,e3⟩⟩,h.all,k⟩
theorem GwAt.heap {x:WkFix} {gs T:Nat} {w w':World} {K:Nat→Nat} {f:Nat→Int×Int} (h:GwAt x gs T w K f) (e:w'.heap=w.heap):GwAt x gs T w' K f:=⟨at_heap h.wk e,h.all,by unfold SpansAt;rw [e];exact h.sp⟩
set_option maxRecDepth 8000 in
set_option maxHeartbeats 1600000 in
theorem go_leaf (x:WkFix) (hx:x.ok) (gs T k i j:Nat) (n:Sp.Nd) (hn:x.ns[k]?=some n) (hk:k < x.ns.length) (hij:i≤j) (hj:j≤x.S.size) (h0:n.kind=0∨n.kind=1) (hE:(x.E k).g i j=[]):GoC x gs T k i j:=by
 intro w K f W
 obtain⟨r0,r1,r2,r3,r4,r5,r6⟩:=W.wk.cells
 obtain⟨c0,c1,c2,cs,cn⟩:=W.wk.rf.node hn
 have hle:=W.wk.rf.le
 have HW:Hid (GwAt x gs T w K f):=W
 have hk':(k:Int) < x.ns.length:=by omega
 have hsz:=hx.size
 have hln:=hx.len
 have HE:Hid ((x.E k).g i j=[]):=hE
 clear W cs cn hn hE hx
 rcases h0 with h0|h0
 ·rw [h0] at c0
  go_enter Tryz.func49,Tryz.ntmps49
  go_wp2_with fail
  go_end0
  exact⟨K,rfl,by rw [HE.out];exact HW.out,Upd.refl _ _⟩
 ·rw [h0] at c0
  go_enter Tryz.func49,Tryz.ntmps49
  go_wp2_with fail
  go_end0
  exact⟨K,rfl,by rw [HE.out];exact HW.out,Upd.refl _ _⟩
set_option maxRecDepth 8000 in
set_option maxHeartbeats 1600000 in
theorem go_pair (x:WkFix) (hx:x.ok) (gs T k i j:Nat) (n:Sp.Nd) (hn:x.ns[k]?=some n) (hk:k < x.ns.length) (hij:i≤j) (hj:j≤x.S.size) (h0:n.kind=2) (a b c:Nat) (ha:n.a=a) (hb:n.b=b) (la:a < x.ns.length) (lb:b < x.ns.length) (hc:cutV (fun c=>(x.E a).m i c && (x.E b).m c j) i j=c) (hE:(x.E k).g i j=(x.E a).g i c++(x.E b).g c j) (hA:GoC x gs T a i c) (hB:GoC x gs T b c j):GoC x gs T k i j:=by
 intro w K f W
 obtain⟨r0,r1,r2,r3,r4,r5,r6⟩:=W.wk.cells
 obtain⟨c0,c1,c2,cs,cn⟩:=W.wk.rf.node hn
 have hle:=W.wk.rf.le
 have HW:Hid (GwAt x gs T w K f):=W
 have hk':(k:Int) < x.ns.length:=by omega
 have hsz:=hx.size
 have hln:=hx.len
 have HN:Hid (x.ns[k]?=some n):=hn
 have HW1:Hid (GwAt x gs T w.drew K f):=W.heap rfl
 have hne:=W.wk.ne.2.2
 have HGL:Hid (x.g < w.drew.heap.size):=by obtain⟨cur,r,_⟩:=W.wk.rf.row;exact lt_of_heap (w:=w.drew) r
 have HE:Hid ((x.E k).g i j=(x.E a).g i c++(x.E b).g c j):=hE
 have HCUT:Hid (∀ w' K',x.at w' K'→KAll x K'→Calls Tryz.prog 65 #[.pointer (some ⟨x.q,0,none⟩),.int .i64 a,.int .i64 b,.int .i64 i,.int .i64 j,.int .i64 i] w' (KaOut x (.int .i64 c) w')):=fun w' K' h1 h2=>by rw [← hc];exact cut_right x hx a b i j i la lb hj (by omega) (Nat.le_refl _) w' K' h1 h2
 have HA:Hid (GoC x gs T a i c):=hA
 have HB:Hid (GoC x gs T b c j):=hB
 have Ha:Hid (n.a=a):=ha
 have Hb:Hid (n.b=b):=hb
 rw [h0] at c0
 rw [ha] at c1
 rw [hb] at c2
 have HC1:Hid (w.drew.cell? ⟨x.g,k * 260+1,none⟩=some (.int .i64 a)):=c1
 have HC2:Hid (w.drew.cell? ⟨x.g,k * 260+2,none⟩=some (.int .i64 b)):=c2
 clear W cs cn hn hE hx hc hA hB ha hb
 go_enter Tryz.func49,Tryz.ntmps49
 go_wp2_with fail
 go_region_held3 (fun w'=>w'.cell? ⟨x.g,k * 260+1,none⟩=some (.int .i64 a)∧w'.cell? ⟨x.g,k * 260+2,none⟩=some (.int .i64 b)) (go_keep) (first|(go_at_call 65;refine (HCUT.out _ K HW1.out.wk HW1.out.all).mono ?_;rintro e w2 ⟨K2,rfl,k2,g2,u2⟩;have z1:=(cell_eq (u2.block x.g HGL.out (by simpa using hne)) _).trans HC1.out;have z2:=(cell_eq (u2.block x.g HGL.out (by simpa using hne)) _).trans HC2.out;have HW2:Hid (GwAt x gs T w2 K2 f):=HW1.out.known u2 k2 g2;have HU2:Hid (Upd [x.gk] w w2):=(Upd.drew (Upd.refl _ _)).trans u2;clear k2 g2 u2))
 all_goals go_wp2_with fail
 all_goals
  refine (HA.out _ K2 f HW2.out).mono ?_
  rintro e w3 ⟨K3,rfl,W3,u3⟩
  have HW3:Hid (GwAt x gs T w3 K3 (Sp.puts f ((x.E a).g i c))):=W3
  have HU3:Hid (Upd [x.gk,gs] w w3):=(HU2.out.mono (by simp)).trans u3
  obtain⟨t0,t1,t2,ts,tn⟩:=W3.wk.rf.node HN.out
  rw [Hb.out] at t2
  clear u3 W3 ts tn
  go_wp2_with fail
  refine (HB.out _ K3 _ HW3.out).mono ?_
  rintro e w4 ⟨K4,rfl,W4,u4⟩
  have HW4:Hid (GwAt x gs T w4 K4 (Sp.puts (Sp.puts f ((x.E a).g i c)) ((x.E b).g c j))):=W4
  have HU4:Hid (Upd [x.gk,gs] w w4):=HU3.out.trans u4
  clear u4 W4
  go_wp2_with fail
  go_end0
  exact⟨K4,rfl,by rw [HE.out,Sp.puts_append];exact HW4.out,HU4.out⟩
set_option maxRecDepth 8000 in
set_option maxHeartbeats 1600000 in
theorem go_eith (x:WkFix) (hx:x.ok) (gs T k i j:Nat) (n:Sp.Nd) (hn:x.ns[k]?=some n) (hk:k < x.ns.length) (hij:i≤j) (hj:j≤x.S.size) (h0:n.kind=3) (a b:Nat) (ha:n.a=a) (hb:n.b=b) (la:a < x.ns.length) (lb:b < x.ns.length) (hE:(x.E k).g i j=if (x.E a).m i j then (x.E a).g i j else (x.E b).g i j) (hA:(x.E a).m i j=true→GoC x gs T a i j) (hB:(x.E a).m i j=false→GoC x gs T b i j):GoC x gs T k i j:=by
 intro w K f W
 obtain⟨r0,r1,r2,r3,r4,r5,r6⟩:=W.wk.cells
 obtain⟨c0,c1,c2,cs,cn⟩:=W.wk.rf.node hn
 have hle:=W.wk.rf.le
 have HW:Hid (GwAt x gs T w K f):=W
 have hk':(k:Int) < x.ns.length:=by omega
 have hsz:=hx.size
 have hln:=hx.len
 have HN:Hid (x.ns[k]?=some n):=hn
 have HW1:Hid (GwAt x gs T w.drew K f):=W.heap rfl
 have hne:=W.wk.ne.2.2
 have HGL:Hid (x.g < w.drew.heap.size):=by obtain⟨cur,r,_⟩:=W.wk.rf.row;exact lt_of_heap (w:=w.drew) r
 have HE:Hid ((x.E k).g i j=if (x.E a).m i j then (x.E a).g i j else (x.E b).g i j):=hE
 have HCAN:Hid (∀ w' K',x.at w' K'→KAll x K'→Calls Tryz.prog 28 #[.pointer (some ⟨x.q,0,none⟩),.int .i64 a,.int .i64 i,.int .i64 j] w' (KaOut x (.bool ((x.E a).m i j)) w')):=fun w' K' h1 h2=>can_right x hx a i j la hij hj w' K' h1 h2
 have HA:Hid ((x.E a).m i j=true→GoC x gs T a i j):=hA
 have HB:Hid ((x.E a).m i j=false→GoC x gs T b i j):=hB
 have Ha:Hid (n.a=a):=ha
 have Hb:Hid (n.b=b):=hb
 rw [h0] at c0
 rw [ha] at c1
 clear W cs cn hn hE hx hA hB ha hb
 go_enter Tryz.func49,Tryz.ntmps49
 go_wp2_with fail
 refine (HCAN.out _ K HW.out.wk HW.out.all).mono ?_
 rintro e w2 ⟨K2,rfl,k2,g2,u2⟩
 have HW2:Hid (GwAt x gs T w2 K2 f):=HW.out.known u2 k2 g2
 have HU2:Hid (Upd [x.gk] w w2):=u2
 obtain⟨t0,t1,t2,ts,tn⟩:=(RkAt.known HW.out.wk u2 k2).rf.node HN.out
 rw [Ha.out] at t1
 rw [Hb.out] at t2
 clear k2 g2 u2 ts tn
 cases hm:(x.E a).m i j with
 | true=>
  go_wp2_with fail
  refine (HA.out hm _ K2 f HW2.out).mono ?_
  rintro e w3 ⟨K3,rfl,W3,u3⟩
  have HO:Hid (GoOut x gs T (Sp.puts f ((x.E k).g i j)) w (.returned (.tuple #[])) w3):=⟨K3,rfl,by rw [HE.out,hm];exact W3,(HU2.out.mono (by simp)).trans u3⟩
  clear W3 u3
  go_wp2_with fail
  go_end0
  exact HO.out
 | false=>
  go_wp2_with fail
  refine (HB.out hm _ K2 f HW2.out).mono ?_
  rintro e w3 ⟨K3,rfl,W3,u3⟩
  have HO:Hid (GoOut x gs T (Sp.puts f ((x.E k).g i j)) w (.returned (.tuple #[])) w3):=⟨K3,rfl,by rw [HE.out,hm];exact W3,(HU2.out.mono (by simp)).trans u3⟩
  clear W3 u3
  go_wp2_with fail
  go_end0
  exact HO.out
set_option maxRecDepth 8000 in
set_option maxHeartbeats 1600000 in
theorem go_grp (x:WkFix) (hx:x.ok) (gs T k i j:Nat) (n:Sp.Nd) (hn:x.ns[k]?=some n) (hk:k < x.ns.length) (hij:i≤j) (hj:j≤x.S.size) (h0:n.kind=4) (a m:Nat) (ha:n.a=a) (hm:n.num=m) (hmT:m < T) (hT:T≤1000) (hsv:x.sv=.slice (some ⟨gs,0,none⟩) T T) (hE:(x.E k).g i j=(if 0 < m then [(m,i,j)] else [])++(x.E a).g i j) (hA:GoC x gs T a i j):GoC x gs T k i j:=by
 intro w K f W
 obtain⟨r0,r1,r2,r3,r4,r5,r6⟩:=W.wk.cells
 obtain⟨c0,c1,c2,cs,cn⟩:=W.wk.rf.node hn
 have hle:=W.wk.rf.le
 have HW:Hid (GwAt x gs T w K f):=W
 have hk':(k:Int) < x.ns.length:=by omega
 have hsz:=hx.size
 have hln:=hx.len
 have HN:Hid (x.ns[k]?=some n):=hn
 have HW1:Hid (GwAt x gs T w.drew K f):=W.heap rfl
 have hne:=W.wk.ne.2.2
 have HGL:Hid (x.g < w.drew.heap.size):=by obtain⟨cur,r,_⟩:=W.wk.rf.row;exact lt_of_heap (w:=w.drew) r
 have HE:Hid ((x.E k).g i j=(if 0 < m then [(m,i,j)] else [])++(x.E a).g i j):=hE
 have HA:Hid (GoC x gs T a i j):=hA
 have Ha:Hid (n.a=a):=ha
 rw [h0] at c0
 rw [ha] at c1
 rw [hm] at cn
 rw [hsv] at r3
 obtain⟨s0,s1,fz⟩:=W.sp.facts
 by_cases hz:0 < m
 ·have hz':(0:Int) < m:=by omega
  have hm':(m:Int) < T:=by omega
  have e0:=s0 m hmT
  have e1:=s1 m hmT
  have HW2:Hid (GwAt x gs T ((w.setCell ⟨gs,m * 2,none⟩ (.int .i64 i)).setCell ⟨gs,m * 2+1,none⟩ (.int .i64 j)) K (fun c=>if c=m then ((i:Int),(j:Int)) else f c)):=W.spans (Upd.setCell (Upd.setCell (Upd.refl _ _) (by simp) _) (by simp) _) (W.sp.put m hmT i j)
  have HU2:Hid (Upd [gs] w ((w.setCell ⟨gs,m * 2,none⟩ (.int .i64 i)).setCell ⟨gs,m * 2+1,none⟩ (.int .i64 j))):=Upd.setCell (Upd.setCell (Upd.refl _ _) (by simp) _) (by simp) _
  have HWd:Hid (GwAt x gs T ((w.setCell ⟨gs,m * 2,none⟩ (.int .i64 i)).setCell ⟨gs,m * 2+1,none⟩ (.int .i64 j)).drew K (fun c=>if c=m then ((i:Int),(j:Int)) else f c)):=HW2.out.heap rfl
  have hng:=W.ne.2.2.2
  have hnq:=W.ne.2.1
  have hng':¬ gs=x.g:=fun e=>hng e.symm
  clear W cs hn hE hx hA ha hm s0 s1 hsv
  go_enter Tryz.func49,Tryz.ntmps49
  go_wp2_with fail
  go_region
  all_goals go_wp2_with fail
  all_goals
   refine (HA.out _ K _ HWd.out).mono ?_
   rintro e w3 ⟨K3,rfl,W3,u3⟩
   have HO:Hid (GoOut x gs T (Sp.puts f ((x.E k).g i j)) w (.returned (.tuple #[])) w3):=⟨K3,rfl,by rw [HE.out,if_pos hz];exact W3,((HU2.out.mono (by simp)).drew).trans u3⟩
   clear W3 u3
   go_wp2_with fail
   go_end0
   exact HO.out
 ·have hz':¬ (0:Int) < m:=by omega
  clear W cs hn hE hx hA ha hm s0 s1 hsv
  go_enter Tryz.func49,Tryz.ntmps49
  go_wp2_with fail
  refine (HA.out _ K f HW.out).mono ?_
  rintro e w3 ⟨K3,rfl,W3,u3⟩
  have HO:Hid (GoOut x gs T (Sp.puts f ((x.E k).g i j)) w (.returned (.tuple #[])) w3):=⟨K3,rfl,by rw [HE.out,if_neg hz];exact W3,u3⟩
  clear W3 u3
  go_wp2_with fail
  go_end0
  exact HO.out
end Go.Proofs.YtcpfpnjkfahjcaaGreat
