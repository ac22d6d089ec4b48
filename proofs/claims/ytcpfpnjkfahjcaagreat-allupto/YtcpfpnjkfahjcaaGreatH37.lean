import Derived.Test.YtcpfpnjkfahjcaaGreatH36
import Derived.Deep.RegionHeld3
set_option linter.unusedSimpArgs false
set_option linter.unusedVariables false
namespace Go.Proofs.YtcpfpnjkfahjcaaGreat
open Go.RowKit
set_option maxRecDepth 8000 in
set_option maxHeartbeats 1600000 in
theorem ask_eith (x:WkFix) (hx:x.ok) (k i j:Nat) (n:Sp.Nd) (hn:x.ns[k]?=some n) (hk:k < x.ns.length) (hij:i≤j) (hj:j≤x.S.size) (h0:n.kind=3) (a b:Nat) (ha:n.a=a) (hb:n.b=b) (la:a < x.ns.length) (lb:b < x.ns.length) (hE:Sp.EithS (x.E a) (x.E b) (x.E k)) (hA:CanC x a i j∧kMs (x.S.size+1) a i j < kMs (x.S.size+1) k i j) (hB:CanC x b i j∧kMs (x.S.size+1) b i j < kMs (x.S.size+1) k i j):AskC x k i j:=by
 intro w K W G
 obtain⟨r0,r1,r2,r3,r4,r5,r6⟩:=W.cells
 obtain⟨c0,c1,c2,cs,cn⟩:=W.rf.node hn
 rw [h0] at c0
 have hle:=W.rf.le
 have HW:Hid (x.at w K):=W
 have HG:Hid (KGood x.E (x.S.size+1) x.ns.length (kMs (x.S.size+1) k i j) K):=G
 have hk':(k:Int) < x.ns.length:=by omega
 have hsz:=hx.size
 have hln:=hx.len
 have HX:Hid x.ok:=hx
 have hm:Hid ((x.E k).m i j=((x.E a).m i j || (x.E b).m i j)):=(hE i j hij).1
 rw [ha] at c1
 rw [hb] at c2
 have HCA:Hid (CanC x a i j∧kMs (x.S.size+1) a i j < kMs (x.S.size+1) k i j):=hA
 have HCB:Hid (CanC x b i j∧kMs (x.S.size+1) b i j < kMs (x.S.size+1) k i j):=hB
 have hne:=W.ne.2.2
 have HC2:Hid (w.cell? ⟨x.g,k * 260+2,none⟩=some (.int .i64 b)):=c2
 have hgl:x.g < w.heap.size:=by obtain⟨cur,r,_⟩:=W.rf.row;exact lt_of_heap r
 clear W G cs cn hn hE hx ha hb hA hB c2
 go_enter Tryz.func48,Tryz.ntmps48
 go_wp2_with fail
 refine (can_up HCA.out.1 HCA.out.2 _ K HW.out HG.out).mono ?_
 rintro e w2 ⟨K2,rfl,k2,g2,s2,u2⟩
 have HW2:Hid (x.at w2 K2):=RkAt.known HW.out u2 k2
 have HG2:Hid (KGood x.E (x.S.size+1) x.ns.length (kMs (x.S.size+1) k i j) K2):=g2
 have HS2:Hid (KSame (x.S.size+1) x.ns.length (kMs (x.S.size+1) k i j) K K2):=s2
 have HU2:Hid (Upd [x.gk] w w2):=u2
 have d2:w2.cell? ⟨x.g,k * 260+2,none⟩=some (.int .i64 b):=(cell_eq (u2.block x.g hgl (by simpa using hne)) _).trans HC2.out
 clear k2 g2 s2 u2
 go_wp2_with fail
 refine (can_up HCB.out.1 HCB.out.2 _ K2 HW2.out HG2.out).mono ?_
 rintro e w3 ⟨K3,rfl,k3,g3,s3,u3⟩
 have HK3:Hid (KnAt w3 x.gk x.N K3):=k3
 have HG3:Hid (KGood x.E (x.S.size+1) x.ns.length (kMs (x.S.size+1) k i j) K3):=g3
 have HS3:Hid (KSame (x.S.size+1) x.ns.length (kMs (x.S.size+1) k i j) K K3):=HS2.out.trans s3
 have HU3:Hid (Upd [x.gk] w w3):=HU2.out.trans u3
 clear k3 g3 s3 u3
 have hv:∀ p q:Bool,p=(x.E a).m i j→q=(x.E b).m i j→(p || q)=(x.E k).m i j:=fun p q e1 e2=>by rw [hm.out,e1,e2]
 have HV:Hid (∀ p q:Bool,p=(x.E a).m i j→q=(x.E b).m i j→(p || q)=(x.E k).m i j):=hv
 clear hv
 generalize hpa:(x.E a).m i j=pa at *
 generalize hpb:(x.E b).m i j=pb at *
 have HPK:Hid ((pa || pb)=(x.E k).m i j):=HV.out pa pb rfl rfl
 clear HV hpa hpb
 cases pa with
 | true=>
  go_wp2_with fail
  go_ret
  exact⟨K3,ret_bool HPK.out,HK3.out,HG3.out,HS3.out,HU3.out⟩
 | false=>
  go_wp2_with fail
  go_ret
  exact⟨K3,ret_bool HPK.out,HK3.out,HG3.out,HS3.out,HU3.out⟩
set_option maxRecDepth 8000 in
set_option maxHeartbeats 1600000 in
theorem ask_grp (x:WkFix) (hx:x.ok) (k i j:Nat) (n:Sp.Nd) (hn:x.ns[k]?=some n) (hk:k < x.ns.length) (hij:i≤j) (hj:j≤x.S.size) (h0:n.kind=4) (a m:Nat) (ha:n.a=a) (la:a < x.ns.length) (hE:Sp.GrpS m (x.E a) (x.E k)) (hA:CanC x a i j∧kMs (x.S.size+1) a i j < kMs (x.S.size+1) k i j):AskC x k i j:=by
 intro w K W G
 obtain⟨r0,r1,r2,r3,r4,r5,r6⟩:=W.cells
 obtain⟨c0,c1,c2,cs,cn⟩:=W.rf.node hn
 rw [h0] at c0
 have hle:=W.rf.le
 have HW:Hid (x.at w K):=W
 have HG:Hid (KGood x.E (x.S.size+1) x.ns.length (kMs (x.S.size+1) k i j) K):=G
 have hk':(k:Int) < x.ns.length:=by omega
 have hsz:=hx.size
 have hln:=hx.len
 have HX:Hid x.ok:=hx
 have hm:Hid ((x.E k).m i j=(x.E a).m i j):=(hE i j hij).1
 rw [ha] at c1
 have HCA:Hid (CanC x a i j∧kMs (x.S.size+1) a i j < kMs (x.S.size+1) k i j):=hA
 clear W G cs cn hn hE hx ha hA
 go_enter Tryz.func48,Tryz.ntmps48
 go_wp2_with fail
 refine (can_up HCA.out.1 HCA.out.2 _ K HW.out HG.out).mono ?_
 rintro e w2 ⟨K2,rfl,k2,g2,s2,u2⟩
 have HO:Hid (KnOut x (kMs (x.S.size+1) k i j) (.bool ((x.E k).m i j)) w K (.returned (.bool ((x.E a).m i j))) w2):=⟨K2,ret_bool hm.out.symm,k2,g2,s2,u2⟩
 clear k2 g2 s2 u2
 go_wp2_with fail
 go_ret
 exact HO.out
set_option maxRecDepth 8000 in
set_option maxHeartbeats 1600000 in
theorem ask_turn (x:WkFix) (hx:x.ok) (k i j:Nat) (n:Sp.Nd) (hn:x.ns[k]?=some n) (hk:k < x.ns.length) (hij:i≤j) (hj:j≤x.S.size) (h0:n.kind=5) (a b:Nat) (ha:n.a=a) (hb:n.b=b) (lb:b < x.ns.length) (la:a < x.ns.length) (hE:Sp.TurnS (x.E a) (x.E b) (x.E k)) (hA:∀ c,i+1≤c→c≤j→CanC x a i c∧kMs (x.S.size+1) a i c < kMs (x.S.size+1) k i j) (hB:∀ c,i+1≤c→c≤j→CanC x b c j∧kMs (x.S.size+1) b c j < kMs (x.S.size+1) k i j):AskC x k i j:=by
 intro w K W G
 obtain⟨r0,r1,r2,r3,r4,r5,r6⟩:=W.cells
 obtain⟨c0,c1,c2,cs,cn⟩:=W.rf.node hn
 rw [h0] at c0
 have hle:=W.rf.le
 have HW:Hid (x.at w K):=W
 have HG:Hid (KGood x.E (x.S.size+1) x.ns.length (kMs (x.S.size+1) k i j) K):=G
 have hk':(k:Int) < x.ns.length:=by omega
 have hsz:=hx.size
 have hln:=hx.len
 have HX:Hid x.ok:=hx
 have hm:Hid ((x.E k).m i j=(i == j || Sp.cutB (x.E a).m (x.E b).m (i+1) i j)):=(hE i j hij).1
 rw [ha] at c1
 rw [hb] at c2
 have HW1:Hid (x.at w.drew K):=at_heap W rfl
 by_cases he:i=j
 ·have he':((i:Int) == (j:Int))=true:=by subst he;exact beq_self_eq_true _
  have hv:Hid (true=(x.E k).m i j):=by
   show _=_
   rw [hm.out]
   have:(i == j)=true:=by subst he;exact beq_self_eq_true _
   rw [this];rfl
  clear W G cs cn hn hE hx ha hA hB he hb
  go_enter Tryz.func48,Tryz.ntmps48
  go_wp2_with fail
  go_quiet (fail)
  go_wp2_with fail
  go_ret
  exact⟨K,ret_bool hv.out,HW.out.kn,HG.out,KSame.refl _ _ _ _,drewN_upd _ _ _⟩
 ·have he':((i:Int) == (j:Int))=false:=beq_eq_false_iff_ne.mpr (by omega)
  have HCUT:Hid (∀ w' K',x.at w' K'→KGood x.E (x.S.size+1) x.ns.length (kMs (x.S.size+1) k i j) K'→Calls Tryz.prog 65 #[.pointer (some ⟨x.q,0,none⟩),.int .i64 a,.int .i64 b,.int .i64 i,.int .i64 j,.int .i64 ((i+1:Nat):Int)] w' (KnOut x (kMs (x.S.size+1) k i j) (.int .i64 (cutV (fun c=>(x.E a).m i c && (x.E b).m c j) (i+1) j)) w' K')):=fun w' K'=>wCut_any x hx a b i j (i+1) (kMs (x.S.size+1) k i j) la lb hj (by omega) (by omega) hA hB w' K'
  have hv:Hid (decide (0≤cutV (fun c=>(x.E a).m i c && (x.E b).m c j) (i+1) j)=(x.E k).m i j):=by
   show _=_
   have:(i == j)=false:=beq_eq_false_iff_ne.mpr he
   rw [hm.out,this,Bool.false_or]
   exact cutV_is _ _ (i+1) i j
  have W0:Hid (x.at w K):=W
  clear W G cs cn hn hE hx ha hA hB he hb
  have hne:=W0.out.ne.2.2
  have HGL:Hid (x.g < w.drew.heap.size):=by obtain⟨cur,r,_⟩:=W0.out.rf.row;exact lt_of_heap (w:=w.drew) r
  have HC1:Hid (w.drew.cell? ⟨x.g,k * 260+1,none⟩=some (.int .i64 a)):=c1
  have HC2:Hid (w.drew.cell? ⟨x.g,k * 260+2,none⟩=some (.int .i64 b)):=c2
  have HWR:Hid (IntKind.i64.wrap ((i:Int)+1)=((i+1:Nat):Int)):=by show _=_;rw [IntKind.wrap_i64];omega
  generalize hV:cutV (fun c=>(x.E a).m i c && (x.E b).m c j) (i+1) j=V at *
  clear hV
  go_enter Tryz.func48,Tryz.ntmps48
  go_wp2_with fail
  go_region_held3 (fun w'=>w'.cell? ⟨x.g,k * 260+1,none⟩=some (.int .i64 a)∧w'.cell? ⟨x.g,k * 260+2,none⟩=some (.int .i64 b)) (go_keep) (first|(go_at_call 65;rw [HWR.out];refine (HCUT.out _ K HW1.out HG.out).mono ?_;rintro e w2 ⟨K2,rfl,k2,g2,s2,u2⟩;have z1:=(cell_eq (u2.block x.g HGL.out (by simpa using hne)) _).trans HC1.out;have z2:=(cell_eq (u2.block x.g HGL.out (by simpa using hne)) _).trans HC2.out;have HO:Hid (KnOut x (kMs (x.S.size+1) k i j) (.bool ((x.E k).m i j)) w K (.returned (.bool ((x.E k).m i j))) w2):=KnOut.pre (Upd.drew (Upd.refl _ _)) k2 g2 s2 u2;clear k2 g2 s2 u2))
  all_goals go_wp2_with fail
  all_goals go_ret
  all_goals
   have:=HO.out
   rw [← hv.out] at this ⊢
   exact this
set_option maxRecDepth 8000 in
set_option maxHeartbeats 1600000 in
theorem ask_turns (x:WkFix) (hx:x.ok) (k i j:Nat) (n:Sp.Nd) (hn:x.ns[k]?=some n) (hk:k < x.ns.length) (hij:i≤j) (hj:j≤x.S.size) (h0:n.kind=6) (a:Nat) (ha:n.a=a) (la:a < x.ns.length) (hE:Sp.TurnS (x.E a) (x.E k) (x.E k)) (hA:∀ c,i+1≤c→c≤j→CanC x a i c∧kMs (x.S.size+1) a i c < kMs (x.S.size+1) k i j) (hB:∀ c,i+1≤c→c≤j→CanC x k c j∧kMs (x.S.size+1) k c j < kMs (x.S.size+1) k i j):AskC x k i j:=by
 intro w K W G
 obtain⟨r0,r1,r2,r3,r4,r5,r6⟩:=W.cells
 obtain⟨c0,c1,c2,cs,cn⟩:=W.rf.node hn
 rw [h0] at c0
 have hle:=W.rf.le
 have HW:Hid (x.at w K):=W
 have HG:Hid (KGood x.E (x.S.size+1) x.ns.length (kMs (x.S.size+1) k i j) K):=G
 have hk':(k:Int) < x.ns.length:=by omega
 have hsz:=hx.size
 have hln:=hx.len
 have HX:Hid x.ok:=hx
 have hm:Hid ((x.E k).m i j=(i == j || Sp.cutB (x.E a).m (x.E k).m (i+1) i j)):=(hE i j hij).1
 rw [ha] at c1
 have HW1:Hid (x.at w.drew K):=at_heap W rfl
 by_cases he:i=j
 ·have he':((i:Int) == (j:Int))=true:=by subst he;exact beq_self_eq_true _
  have hv:Hid (true=(x.E k).m i j):=by
   show _=_
   rw [hm.out]
   have:(i == j)=true:=by subst he;exact beq_self_eq_true _
   rw [this];rfl
  clear W G cs cn hn hE hx ha hA hB he
  go_enter Tryz.func48,Tryz.ntmps48
  go_wp2_with fail
  go_ret
  exact⟨K,ret_bool hv.out,HW.out.kn,HG.out,KSame.refl _ _ _ _,Upd.refl _ _⟩
 ·have he':((i:Int) == (j:Int))=false:=beq_eq_false_iff_ne.mpr (by omega)
  have HCUT:Hid (∀ w' K',x.at w' K'→KGood x.E (x.S.size+1) x.ns.length (kMs (x.S.size+1) k i j) K'→Calls Tryz.prog 65 #[.pointer (some ⟨x.q,0,none⟩),.int .i64 a,.int .i64 k,.int .i64 i,.int .i64 j,.int .i64 ((i+1:Nat):Int)] w' (KnOut x (kMs (x.S.size+1) k i j) (.int .i64 (cutV (fun c=>(x.E a).m i c && (x.E k).m c j) (i+1) j)) w' K')):=fun w' K'=>wCut_any x hx a k i j (i+1) (kMs (x.S.size+1) k i j) la hk hj (by omega) (by omega) hA hB w' K'
  have hv:Hid (decide (0≤cutV (fun c=>(x.E a).m i c && (x.E k).m c j) (i+1) j)=(x.E k).m i j):=by
   show _=_
   have:(i == j)=false:=beq_eq_false_iff_ne.mpr he
   rw [hm.out,this,Bool.false_or]
   exact cutV_is _ _ (i+1) i j
  have W0:Hid (x.at w K):=W
  clear W G cs cn hn hE hx ha hA hB he
  have hne:=W0.out.ne.2.2
  have HGL:Hid (x.g < w.drew.heap.size):=by obtain⟨cur,r,_⟩:=W0.out.rf.row;exact lt_of_heap (w:=w.drew) r
  have HC1:Hid (w.drew.cell? ⟨x.g,k * 260+1,none⟩=some (.int .i64 a)):=c1
  have HWR:Hid (IntKind.i64.wrap ((i:Int)+1)=((i+1:Nat):Int)):=by show _=_;rw [IntKind.wrap_i64];omega
  generalize hV:cutV (fun c=>(x.E a).m i c && (x.E k).m c j) (i+1) j=V at *
  clear hV
  go_enter Tryz.func48,Tryz.ntmps48
  go_wp2_with fail
  refine (HCUT.out _ K HW.out HG.out).mono ?_
  rintro e w2 ⟨K2,rfl,k2,g2,s2,u2⟩
  have HO:Hid (KnOut x (kMs (x.S.size+1) k i j) (.bool ((x.E k).m i j)) w K (.returned (.bool ((x.E k).m i j))) w2):=⟨K2,rfl,k2,g2,s2,u2⟩
  clear k2 g2 s2 u2
  go_wp2_with fail
  go_ret
  have:=HO.out
  rw [← hv.out] at this ⊢
  exact this
theorem kMs_less {n a k i j i' j':Nat} (h:a < k) (hj:j'≤n):kMs (n+1) a i' j' < kMs (n+1) k i j:=by
 unfold kMs
 have h1:(a+1) * (n+1)≤k * (n+1):=Nat.mul_le_mul_right _ h
 rw [Nat.add_mul] at h1
 omega
theorem kMs_turn {n k i j c:Nat} (h1:i < c) (h2:c≤j):kMs n k c j < kMs n k i j:=by unfold kMs;omega
theorem all_asks (x:WkFix) (hx:x.ok):∀ (m k i j:Nat),k < x.ns.length→i≤j→j≤x.S.size→kMs (x.S.size+1) k i j < m→AskC x k i j
 | 0,_,_,_,_,_,_,h=>absurd h (by omega)
 | m+1,k,i,j,hk,hij,hj,hm=>by
  have IH:∀ k' i' j',k' < x.ns.length→i'≤j'→j'≤x.S.size→kMs (x.S.size+1) k' i' j' < kMs (x.S.size+1) k i j→CanC x k' i' j':=fun k' i' j' h1 h2 h3 h4=>wCan_any x hx k' i' j' h1 h2 h3 (all_asks x hx m k' i' j' h1 h2 h3 (by omega))
  obtain⟨n,hn⟩:∃ n,x.ns[k]?=some n:=⟨_,List.getElem?_eq_getElem hk⟩
  rcases hx.mean k n hn with ⟨h0,hE⟩|⟨h0,hE⟩|⟨h0,a,b,ha,hb,la,lb,hE⟩|⟨h0,a,b,ha,hb,la,lb,hE⟩|⟨h0,a,q,ha,hq,la,hE⟩|⟨h0,a,b,ha,hb,la,lb,hE⟩|⟨h0,a,ha,la,hE⟩
  ·exact ask_nil x hx k i j n hn hk hij hj h0 hE
  ·exact ask_one x hx k i j n hn hk hij hj h0 hE
  ·exact ask_pair x hx k i j n hn hk hij hj h0 a b ha hb (by omega) (by omega) hE (fun c h1 h2=>⟨IH a i c (by omega) h1 (by omega) (kMs_less la (by omega)),kMs_less la (by omega)⟩) (fun c h1 h2=>⟨IH b c j (by omega) h2 hj (kMs_less lb hj),kMs_less lb hj⟩)
  ·exact ask_eith x hx k i j n hn hk hij hj h0 a b ha hb (by omega) (by omega) hE ⟨IH a i j (by omega) hij hj (kMs_less la hj),kMs_less la hj⟩ ⟨IH b i j (by omega) hij hj (kMs_less lb hj),kMs_less lb hj⟩
  ·exact ask_grp x hx k i j n hn hk hij hj h0 a q ha (by omega) hE ⟨IH a i j (by omega) hij hj (kMs_less la hj),kMs_less la hj⟩
  ·exact ask_turn x hx k i j n hn hk hij hj h0 a b ha hb (by omega) (by omega) hE (fun c h1 h2=>⟨IH a i c (by omega) (by omega) (by omega) (kMs_less la (by omega)),kMs_less la (by omega)⟩) (fun c h1 h2=>⟨IH b c j (by omega) h2 hj (kMs_less lb hj),kMs_less lb hj⟩)
  ·exact ask_turns x hx k i j n hn hk hij hj h0 a ha (by omega) hE (fun c h1 h2=>⟨IH a i c (by omega) (by omega) (by omega) (kMs_less la (by omega)),kMs_less la (by omega)⟩) (fun c h1 h2=>⟨IH k c j hk h2 hj (kMs_turn h1 h2),kMs_turn h1 h2⟩)
theorem all_can (x:WkFix) (hx:x.ok) (k i j:Nat) (hk:k < x.ns.length) (hij:i≤j) (hj:j≤x.S.size):CanC x k i j:=wCan_any x hx k i j hk hij hj (all_asks x hx _ k i j hk hij hj (Nat.lt_succ_self _))
def KAll (x:WkFix) (K:Nat→Nat):Prop:=∀ μ,KGood x.E (x.S.size+1) x.ns.length μ K
def KaOut (x:WkFix) (v:Value) (w:World) (e:Ending) (w':World):Prop:=∃ K',e=.returned v∧KnAt w' x.gk x.N K'∧KAll x K'∧Upd [x.gk] w w'
theorem can_right (x:WkFix) (hx:x.ok) (k i j:Nat) (hk:k < x.ns.length) (hij:i≤j) (hj:j≤x.S.size) (w:World) (K:Nat→Nat) (W:x.at w K) (G:KAll x K):Calls Tryz.prog 28 #[.pointer (some ⟨x.q,0,none⟩),.int .i64 k,.int .i64 i,.int .i64 j] w (KaOut x (.bool ((x.E k).m i j)) w):=by
 refine (all_can x hx k i j hk hij hj w K W (G _)).mono ?_
 rintro e w' ⟨K',e1,k1,g1,s1,u1⟩
 exact⟨K',e1,k1,fun μ=>(G μ).up g1 s1,u1⟩
theorem cut_right (x:WkFix) (hx:x.ok) (a b i j fr:Nat) (ha:a < x.ns.length) (hb:b < x.ns.length) (hj:j≤x.S.size) (hfr:fr≤j+1) (hif:i≤fr) (w:World) (K:Nat→Nat) (W:x.at w K) (G:KAll x K):Calls Tryz.prog 65 #[.pointer (some ⟨x.q,0,none⟩),.int .i64 a,.int .i64 b,.int .i64 i,.int .i64 j,.int .i64 fr] w (KaOut x (.int .i64 (cutV (fun c=>(x.E a).m i c && (x.E b).m c j) fr j)) w):=by
 have hm:∀ k,k < x.ns.length→∀ i' j',j'≤x.S.size→kMs (x.S.size+1) k i' j' < kMs (x.S.size+1) x.ns.length 0 0:=fun k hk i' j' h=>kMs_less hk h
 refine (wCut_any x hx a b i j fr (kMs (x.S.size+1) x.ns.length 0 0) ha hb hj hfr hif (fun c h1 h2=>⟨all_can x hx a i c ha (by omega) (by omega),hm a ha i c (by omega)⟩) (fun c h1 h2=>⟨all_can x hx b c j hb h2 hj,hm b hb c j hj⟩) w K W (G _)).mono ?_
 rintro e w' ⟨K',e1,k1,g1,s1,u1⟩
 exact⟨K',e1,k1,fun μ=>(G μ).up g1 s1,u1⟩
end Go.Proofs.YtcpfpnjkfahjcaaGreat
