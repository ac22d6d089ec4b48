import Derived.Test.YtcpfpnjkfahjcaaGreatH35
set_option linter.unusedSimpArgs false
set_option linter.unusedVariables false
namespace Go.Proofs.YtcpfpnjkfahjcaaGreat
open Go.RowKit
theorem beq_cast (i j:Nat):((i:Int) == (j:Int))=(i == j):=by
 by_cases h:i=j
 ·subst h;rw [beq_self_eq_true,beq_self_eq_true]
 ·have:¬ (i:Int)=j:=by omega
  rw [beq_eq_false_iff_ne.mpr h,beq_eq_false_iff_ne.mpr this]
theorem cutV_is (p q:Nat→Nat→Bool) (lo i j:Nat):decide (0≤cutV (fun c=>p i c && q c j) lo j)=Sp.cutB p q lo i j:=by
 unfold cutV Sp.cutB
 cases Sp.greatest (fun c=>p i c && q c j) lo j with
 | none=>rfl
 | some c=>simp
theorem at_heap {x:WkFix} {w w':World} {K:Nat→Nat} (h:x.at w K) (e:w'.heap=w.heap):x.at w' K:=by
 have hb:=h.block
 have hp:=h.rf.block
 obtain⟨cur,r1,r2⟩:=h.rf.row
 obtain⟨kc,k1,k2,k3⟩:=h.kn
 rw [← e] at hb hp r1 k1
 exact⟨hb,⟨hp,⟨cur,r1,r2⟩,h.rf.le⟩,⟨kc,k1,k2,k3⟩⟩
theorem KnOut.pre {x:WkFix} {μ:Nat} {v:Value} {w w1 w2:World} {K K2:Nat→Nat} (u:Upd [] w w1) (k2:KnAt w2 x.gk x.N K2) (g2:KGood x.E (x.S.size+1) x.ns.length μ K2) (s2:KSame (x.S.size+1) x.ns.length μ K K2) (u2:Upd [x.gk] w1 w2):KnOut x μ v w K (.returned v) w2:=⟨K2,rfl,k2,g2,s2,(u.mono (by simp)).trans u2⟩
set_option maxRecDepth 8000 in
set_option maxHeartbeats 1600000 in
theorem ask_nil (x:WkFix) (hx:x.ok) (k i j:Nat) (n:Sp.Nd) (hn:x.ns[k]?=some n) (hk:k < x.ns.length) (hij:i≤j) (hj:j≤x.S.size) (h0:n.kind=0) (hE:Sp.NilS (x.E k)):AskC x k i j:=by
 intro w K W G
 obtain⟨r0,r1,r2,r3,r4,r5,r6⟩:=W.cells
 obtain⟨c0,c1,c2,cs,cn⟩:=W.rf.node hn
 rw [h0] at c0
 have hle:=W.rf.le
 have HW:Hid (x.at w K):=W
 have HG:Hid (KGood x.E (x.S.size+1) x.ns.length (kMs (x.S.size+1) k i j) K):=G
 have hk':(k:Int) < x.ns.length:=by omega
 have hsz:=hx.size
 have hln:=hx.len
 have HX:Hid x.ok:=hx
 have hm:Hid ((x.E k).m i j=(i == j)):=(hE i j hij).1
 clear W G cs cn hn hE hx
 go_enter Tryz.func48,Tryz.ntmps48
 go_wp2_with fail
 go_ret
 exact⟨K,ret_bool ((beq_cast i j).trans hm.out.symm),HW.out.kn,HG.out,KSame.refl _ _ _ _,Upd.refl _ _⟩
set_option maxRecDepth 8000 in
set_option maxHeartbeats 1600000 in
theorem ask_one (x:WkFix) (hx:x.ok) (k i j:Nat) (n:Sp.Nd) (hn:x.ns[k]?=some n) (hk:k < x.ns.length) (hij:i≤j) (hj:j≤x.S.size) (h0:n.kind=1) (hE:Sp.OneS x.S n.set (x.E k)):AskC x k i j:=by
 intro w K W G
 obtain⟨r0,r1,r2,r3,r4,r5,r6⟩:=W.cells
 obtain⟨c0,c1,c2,cs,cn⟩:=W.rf.node hn
 rw [h0] at c0
 have hle:=W.rf.le
 have HW:Hid (x.at w K):=W
 have HG:Hid (KGood x.E (x.S.size+1) x.ns.length (kMs (x.S.size+1) k i j) K):=G
 have hk':(k:Int) < x.ns.length:=by omega
 have hsz:=hx.size
 have hln:=hx.len
 have HX:Hid x.ok:=hx
 have hm:Hid ((x.E k).m i j=Sp.one x.S n.set i j):=(hE i j hij).1
 by_cases h1:j=i+1
 ·subst h1
  have hi:i < x.S.size:=by omega
  have hi':(i:Int) < x.S.size:=by omega
  have hb:x.S[i].toNat < 256:=x.S[i].toNat_lt
  have cb:=cs x.S[i].toNat hb
  have hb':(x.S[i].toNat:Int) < 256:=by omega
  have ho:Hid (Sp.one x.S n.set i (i+1)=n.set x.S[i].toNat):=by
   show _=_
   unfold Sp.one
   rw [Sp.byteAt_in x.S i hi]
   simp [hi]
  clear W G cs cn hn hE hx
  go_enter Tryz.func48,Tryz.ntmps48
  go_wp2_with fail
  go_quiet (fail)
  go_wp2_with fail
  go_ret
  exact⟨K,ret_bool (ho.out.symm.trans hm.out.symm),HW.out.kn,HG.out,KSame.refl _ _ _ _,drewN_upd _ _ _⟩
 ·have h1':((j:Int) == (i:Int)+1)=false:=beq_eq_false_iff_ne.mpr (by omega)
  have ho:Hid (Sp.one x.S n.set i j=false):=by
   show _=_
   unfold Sp.one
   have:(j == i+1)=false:=by simpa using h1
   rw [this];rfl
  clear W G cs cn hn hE hx h1
  go_enter Tryz.func48,Tryz.ntmps48
  go_wp2_with fail
  go_quiet (fail)
  go_wp2_with fail
  go_ret
  exact⟨K,ret_bool (ho.out.symm.trans hm.out.symm),HW.out.kn,HG.out,KSame.refl _ _ _ _,drewN_upd _ _ _⟩
set_option maxRecDepth 8000 in
set_option maxHeartbeats 1600000 in
theorem ask_pair (x:WkFix) (hx:x.ok) (k i j:Nat) (n:Sp.Nd) (hn:x.ns[k]?=some n) (hk:k < x.ns.length) (hij:i≤j) (hj:j≤x.S.size) (h0:n.kind=2) (a b:Nat) (ha:n.a=a) (hb:n.b=b) (la:a < x.ns.length) (lb:b < x.ns.length) (hE:Sp.PairS (x.E a) (x.E b) (x.E k)) (hA:∀ c,i≤c→c≤j→CanC x a i c∧kMs (x.S.size+1) a i c < kMs (x.S.size+1) k i j) (hB:∀ c,i≤c→c≤j→CanC x b c j∧kMs (x.S.size+1) b c j < kMs (x.S.size+1) k i j):AskC x k i j:=by
 intro w K W G
 obtain⟨r0,r1,r2,r3,r4,r5,r6⟩:=W.cells
 obtain⟨c0,c1,c2,cs,cn⟩:=W.rf.node hn
 rw [h0] at c0
 have hle:=W.rf.le
 have HW:Hid (x.at w K):=W
 have HG:Hid (KGood x.E (x.S.size+1) x.ns.length (kMs (x.S.size+1) k i j) K):=G
 have hk':(k:Int) < x.ns.length:=by omega
 have hsz:=hx.size
 have hln:=hx.len
 have HX:Hid x.ok:=hx
 have hm:Hid ((x.E k).m i j=Sp.cutB (x.E a).m (x.E b).m i i j):=(hE i j hij).1
 rw [ha] at c1
 rw [hb] at c2
 have HCUT:Hid (∀ w' K',x.at w' K'→KGood x.E (x.S.size+1) x.ns.length (kMs (x.S.size+1) k i j) K'→Calls Tryz.prog 65 #[.pointer (some ⟨x.q,0,none⟩),.int .i64 a,.int .i64 b,.int .i64 i,.int .i64 j,.int .i64 i] w' (KnOut x (kMs (x.S.size+1) k i j) (.int .i64 (cutV (fun c=>(x.E a).m i c && (x.E b).m c j) i j)) w' K')):=fun w' K'=>wCut_any x hx a b i j i (kMs (x.S.size+1) k i j) la lb hj (by omega) (Nat.le_refl _) hA hB w' K'
 have hv:Hid (decide (0≤cutV (fun c=>(x.E a).m i c && (x.E b).m c j) i j)=(x.E k).m i j):=(cutV_is _ _ i i j).trans hm.out.symm
 have HW1:Hid (x.at w.drew K):=at_heap W rfl
 clear W G cs cn hn hE hx ha hb hA hB
 generalize hV:cutV (fun c=>(x.E a).m i c && (x.E b).m c j) i j=V at *
 clear hV
 go_enter Tryz.func48,Tryz.ntmps48
 go_wp2_with fail
 go_region_with (go_at_call 65;refine (HCUT.out _ K HW1.out HG.out).mono ?_;rintro e w2 ⟨K2,rfl,k2,g2,s2,u2⟩;have HO:Hid (KnOut x (kMs (x.S.size+1) k i j) (.bool ((x.E k).m i j)) w K (.returned (.bool ((x.E k).m i j))) w2):=KnOut.pre (Upd.drew (Upd.refl _ _)) k2 g2 s2 u2;clear k2 g2 s2 u2)
 all_goals go_wp2_with fail
 all_goals go_ret
 all_goals
  have:=HO.out
  rw [← hv.out] at this ⊢
  exact this
end Go.Proofs.YtcpfpnjkfahjcaaGreat
