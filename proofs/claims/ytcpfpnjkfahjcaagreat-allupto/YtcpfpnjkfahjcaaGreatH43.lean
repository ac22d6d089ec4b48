import Derived.Test.YtcpfpnjkfahjcaaGreatH42
import Derived.Test.YtcpfpnjkfahjcaaGreatH39
set_option linter.unusedSimpArgs false
set_option linter.unusedVariables false
namespace Go.Proofs.YtcpfpnjkfahjcaaGreat
open Go.RowKit
def patT (T:TypeId):Bool:=T == 120 || T == 67 || T == 73 || T == 82 || T == 129
def PatTy (w:World) (k:Nat):Prop:=∃ T,TyIs w k T∧patT T=true
theorem own_tyP {w:World} {base k n:Nat} {T:TypeId} {z:Nat} {v:Value} {xs:List Value} (h:w.ownsRow base T z v n xs) (hk:v.ownBlock=some k):TyIs w k T:=by
 rcases h.2 with ⟨q,_⟩|⟨g,cap,cur,rfl,_,e3,_⟩
 ·subst q;cases hk
 ·simp [Value.ownBlock] at hk;subst hk;exact⟨_,e3⟩
theorem TurnAt.ty {w:World} {S:Nat→Prop} {p q:Nat} {a:Lab} {sz:Int} (h:TurnAt w S p q a sz):TurnAt w (PatTy w) p q a sz:=by
 rcases h with h|⟨h0,h1,l,h2,h3,h4⟩
 ·exact Or.inl h
 ·exact Or.inr ⟨h0,⟨_,⟨_,h2⟩,rfl⟩,l,h2,h3,fun g hg=>⟨_,own_tyP h3 hg,rfl⟩⟩
theorem NodesAt.ty {w:World} {S:Nat→Prop}:∀ (ps:List Nat) (ts:List Tr),NodesAt w S ps ts→NodesAt w (PatTy w) ps ts
 | [],[],_=>NodesAt_nil _ _
 | p::ps,⟨a,ks⟩::r,h=>by
  rw [NodesAt_cons] at h ⊢
  obtain⟨⟨q,l,qs,h1,h2,h3,h4,h5,h6⟩,h7⟩:=h
  exact⟨⟨q,l,qs,h1.ty,⟨_,⟨_,h3⟩,rfl⟩,h3,h4,fun g hg=>⟨_,own_tyP h4 hg,rfl⟩,NodesAt.ty qs ks h6⟩,NodesAt.ty ps r h7⟩
 | [],_::_,h=>(NodesAt_no1 h).elim
 | _::_,[],h=>(NodesAt_no2 h).elim
theorem PatAt.frame {w w':World} {p:Nat} {t:Tr} {n:Nat} (h:PatAt w p t n) (hf:∀ k,PatTy w k→w'.heap[k]?=w.heap[k]?):PatAt w' p t n:=by
 obtain⟨h0,root,S,h1,h2⟩:=h
 exact⟨h0,root,PatTy w,(hf p ⟨_,⟨_,h1⟩,rfl⟩).trans h1,⟨NodesAt.same _ _ (NodesAt.ty _ _ h2.nodes) (fun k hk _=>hf k hk),h2.can,h2.few,h2.num⟩⟩
theorem RfPat.frame {w w':World} {p n:Nat} {s:ByteArray} {t:Tr} (h:RfPat w p s t n) (hf:∀ k,PatTy w k→w'.heap[k]?=w.heap[k]?):RfPat w' p s t n:=by
 obtain⟨g,cap,r⟩:=h.rf
 obtain⟨cur,d1,d2⟩:=r.row
 exact⟨h.read,h.len,⟨g,cap,⟨(hf p ⟨_,⟨_,r.block⟩,rfl⟩).trans r.block,⟨cur,(hf g ⟨_,⟨_,d1⟩,rfl⟩).trans d1,d2⟩,r.le⟩⟩,h.nine⟩
def LTy (B:TypeId→Bool) (w:World) (l:List Nat):Prop:=∀ k,k∈l→∃ T,TyIs w k T∧B T=true
theorem LTy.nil (B:TypeId→Bool) (w:World):LTy B w []:=fun k hk=>by cases hk
theorem LTy.cons {B:TypeId→Bool} {w:World} {k:Nat} {l:List Nat} {T:TypeId} (h:TyIs w k T) (hB:B T=true) (r:LTy B w l):LTy B w (k::l):=fun q hq=>by
 rcases List.mem_cons.mp hq with e|e
 ·subst e;exact⟨T,h,hB⟩
 ·exact r q e
theorem TyIs.lt {w:World} {k:Nat} {T:TypeId} (h:TyIs w k T):k < w.heap.size:=by obtain⟨a,ha⟩:=h;exact lt_of_heap ha
theorem TyIs.uniq {w:World} {k:Nat} {T U:TypeId} (h:TyIs w k T) (h':TyIs w k U):T=U:=by
 obtain⟨a,ha⟩:=h;obtain⟨b,hb⟩:=h'
 rw [ha] at hb;injection hb with hb;injection hb
theorem Upd.ty {B:TypeId→Bool} {l:List Nat} {w w':World} (u:Upd l w w') (hl:LTy B w l) {k:Nat} {T:TypeId} (h:TyIs w k T) (hB:B T=false):w'.heap[k]?=w.heap[k]?:=
 u.block k h.lt (fun hm=>by obtain⟨U,h1,h2⟩:=hl k hm;rw [TyIs.uniq h1 h,hB] at h2;cases h2)
theorem TyIs.upd {B:TypeId→Bool} {l:List Nat} {w w':World} {k:Nat} {T:TypeId} (h:TyIs w k T) (u:Upd l w w') (hl:LTy B w l) (hB:B T=false):TyIs w' k T:=by
 obtain⟨a,ha⟩:=h;exact⟨a,(Upd.ty u hl ⟨a,ha⟩ hB).trans ha⟩
def NotPat (B:TypeId→Bool):Prop:=∀ T,patT T=true→B T=false
theorem Upd.pat {B:TypeId→Bool} {l:List Nat} {w w':World} (u:Upd l w w') (hl:LTy B w l) (hB:NotPat B):∀ k,PatTy w k→w'.heap[k]?=w.heap[k]?:=fun k ⟨T,h1,h2⟩=>u.ty hl h1 (hB T h2)
def strT (T:TypeId):Bool:=T == 103 || T == 147 || T == 5 || T == 105
def bokT (T:TypeId):Bool:=T == 36 || T == 37 || T == 3 || T == 92 || T == 66 || T == 94
theorem patT_is {T:TypeId} (h:patT T=true):T=120∨T=67∨T=73∨T=82∨T=129:=by
 simpa [patT,or_assoc] using h
theorem strT_not:NotPat strT:=fun T h=>by rcases patT_is h with rfl|rfl|rfl|rfl|rfl<;>rfl
theorem bokT_not:NotPat bokT:=fun T h=>by rcases patT_is h with rfl|rfl|rfl|rfl|rfl<;>rfl
theorem sameB_self (n:Nat) (f:Nat→Int×Int):sameB n f n f=true:=(sameB_iff n f n f).mpr ⟨rfl,fun _ _=>rfl⟩
theorem same_rec {w:World} {a1 a2:Option Addr} {m1 m2 n k:Nat} {r:Option (Nat→Int×Int)} (h1:RecSp w a1 m1 n r) (h2:RecSp w a2 m2 n r) (hn:n≤1000):Calls Tryz.prog 10 #[.slice a1 m1 m1,.slice a2 m2 m2] (w.drewN k) fun e w'=>e=.returned (.bool true)∧∃ q,w'=(w.drewN k).drewN q:=by
 have u:=drewN_upd [] w k
 refine (same_any _ _ _ _ _ _ _ ((h1.keep u (by simp)).spl hn) ((h2.keep u (by simp)).spl hn) (Nat.le_trans (spLen_le r) hn) (Nat.le_trans (spLen_le r) hn)).mono ?_
 rintro e w' ⟨rfl,q⟩
 rw [sameB_self]
 exact⟨rfl,q⟩
structure RsInv (w:World) (N gn:Nat) (vi:Value) (wr:World):Prop where
 st:∃ i:Nat,vi=.int .i64 i∧i+gn=N∧Upd [] w wr
set_option maxRecDepth 8000 in
set_option maxHeartbeats 1600000 in
theorem sameR_nil (va vb:Value) (w:World) (ba bb n:Nat) (ha:RecsAt w ba va n []) (hb:RecsAt w bb vb n []):Calls Tryz.prog 33 #[va,vb] w fun e w'=>e=.returned (.bool true)∧Upd [] w w':=by
 obtain⟨aa,ca,rfl,_⟩:=ha.slice
 obtain⟨ab,cb,rfl,_⟩:=hb.slice
 clear ha hb
 go_enter Tryz.func33,Tryz.ntmps33
 go_wp2_with fail
 refine wp_loop_rounds 1 ?_
 rw [rounds_succ]
 go_wp2_with fail
 go_ret
 exact⟨rfl,by (repeat (first|exact Upd.refl _ _|refine Upd.drewN ?_|refine Upd.drew ?_|refine Upd.setCell ?_ (by simp) _|refine Upd.alloc ?_ _))⟩
set_option maxRecDepth 8000 in
set_option maxHeartbeats 1600000 in
theorem sameR_some (ga ca gb cb:Nat) (rs:List Sp.Rec) (w:World) (ba bb n:Nat) (hn:n≤1000) (hN:rs.length≤4000000) (ha:RecsAt w ba (.slice (some ⟨ga,0,none⟩) rs.length ca) n rs) (hb:RecsAt w bb (.slice (some ⟨gb,0,none⟩) rs.length cb) n rs):Calls Tryz.prog 33 #[.slice (some ⟨ga,0,none⟩) rs.length ca,.slice (some ⟨gb,0,none⟩) rs.length cb] w fun e w'=>e=.returned (.bool true)∧Upd [] w w':=by
 have HA:Hid (RecsAt w ba (.slice (some ⟨ga,0,none⟩) rs.length ca) n rs):=ha
 have HB:Hid (RecsAt w bb (.slice (some ⟨gb,0,none⟩) rs.length cb) n rs):=hb
 obtain⟨N,hNl⟩:∃ N,rs.length=N:=⟨_,rfl⟩
 have HN:Hid (rs.length=N):=hNl
 rw [hNl] at hN ⊢
 clear ha hb hNl
 go_enter Tryz.func33,Tryz.ntmps33
 go_wp2_with fail
 go_loopg [5] N (fun gn vi wr=>RsInv w N gn vi wr)
 case atStart=>exact⟨0,rfl,by omega,Upd.refl _ _⟩
 case round=>
  obtain⟨i,hii,hi,hu⟩:=hrel.st
  subst hii
  have HU:Hid (Upd [] w wr):=hu
  clear hu
  by_cases hlt:i < N
  ·have hlt':(i:Int) < N:=by omega
   obtain⟨gm,hgm⟩:∃ k,gk=k+1:=⟨gk - 1,by omega⟩
   have hr:rs[i]?=some (rs[i]'(by rw [HN.out];exact hlt)):=List.getElem?_eq_getElem _
   generalize rs[i]'(by rw [HN.out];exact hlt)=r at hr
   obtain⟨a1,m1,R1⟩:=(HA.out.upd HU.out).get hr
   obtain⟨a2,m2,R2⟩:=(HB.out.upd HU.out).get hr
   clear hr
   obtain⟨x0,x1,x2,x3,x4,x5⟩:=R1
   obtain⟨y0,y1,y2,y3,y4,y5⟩:=R2
   have X5:Hid (RecSp wr a1 m1 n r.sp∧n≤1000):=⟨x5,hn⟩
   have Y5:Hid (RecSp wr a2 m2 n r.sp∧n≤1000):=⟨y5,hn⟩
   clear x5 y5
   have hl:spLen n r.sp≤1000:=Nat.le_trans (spLen_le r.sp) hn
   go_wp2_with fail
   go_quiet (first|(go_at_call 10;exact Calls.quiet_of (same_rec X5.out.1 Y5.out.1 X5.out.2)))
   have HU2:Hid (Upd [] w (wr.drewN nq)):=HU.out.trans (drewN_upd [] wr nq)
   have x0':(wr.drewN nq).cell? ⟨ga,i * 5,none⟩=some (.int .i64 r.num):=by rw [← x0];simp
   have x1':(wr.drewN nq).cell? ⟨ga,i * 5+1,none⟩=some (.int .i64 r.frm):=by rw [← x1];simp
   have x2':(wr.drewN nq).cell? ⟨ga,i * 5+2,none⟩=some (.int .i64 r.len):=by rw [← x2];simp
   have x3':(wr.drewN nq).cell? ⟨ga,i * 5+3,none⟩=some (.int .i64 r.code):=by rw [← x3];simp
   have y0':(wr.drewN nq).cell? ⟨gb,i * 5,none⟩=some (.int .i64 r.num):=by rw [← y0];simp
   have y1':(wr.drewN nq).cell? ⟨gb,i * 5+1,none⟩=some (.int .i64 r.frm):=by rw [← y1];simp
   have y2':(wr.drewN nq).cell? ⟨gb,i * 5+2,none⟩=some (.int .i64 r.len):=by rw [← y2];simp
   have y3':(wr.drewN nq).cell? ⟨gb,i * 5+3,none⟩=some (.int .i64 r.code):=by rw [← y3];simp
   clear x0 x1 x2 x3 x4 y0 y1 y2 y3 y4 X5 Y5
   generalize wr.drewN nq=w2 at *
   clear nq
   go_wp2_with fail
   go_quiet (fail)
   have HU3:Hid (Upd [] w (w2.drewN nq)):=HU2.out.trans (drewN_upd [] w2 nq)
   clear x0' x1' x2' x3' y0' y1' y2' y3'
   generalize w2.drewN nq=w3 at *
   go_wp2_with fail
   go_roundg gm
   case measure=>omega
   case rel=>exact⟨i+1,rfl,by omega,HU3.out⟩
  ·have hlt':¬ (i:Int) < N:=by omega
   go_wp2_with fail
   go_ret
   exact⟨rfl,HU.out⟩
theorem sameR_any (va vb:Value) (rs:List Sp.Rec) (w:World) (ba bb n:Nat) (hn:n≤1000) (hN:rs.length≤4000000) (ha:RecsAt w ba va n rs) (hb:RecsAt w bb vb n rs):Calls Tryz.prog 33 #[va,vb] w fun e w'=>e=.returned (.bool true)∧Upd [] w w':=by
 rcases ha.form with ⟨_,rfl⟩|⟨ga,ca,rfl,_,_,_⟩
 ·exact sameR_nil va vb w ba bb n ha hb
 ·rcases hb.form with ⟨_,rfl⟩|⟨gb,cb,rfl,_,_,_⟩
  ·exact sameR_nil _ _ w ba bb n ha hb
  ·exact sameR_some ga ca gb cb rs w ba bb n hn hN ha hb
end Go.Proofs.YtcpfpnjkfahjcaaGreat
