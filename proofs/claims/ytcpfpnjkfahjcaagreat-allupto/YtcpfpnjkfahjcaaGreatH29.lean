import Derived.Test.YtcpfpnjkfahjcaaGreatH28
import Derived.Test.YtcpfpnjkfahjcaaGreatH01
set_option linter.unusedSimpArgs false
set_option linter.unusedVariables false
namespace Go.Proofs.YtcpfpnjkfahjcaaGreat
open Go.RowKit
theorem PartOut.from {r:Nat} {s:ByteArray} {i i':Nat} {a d t t':Int} {w w1 w':World} {res:Sp.Res (Tr×Sp.At)} {k:Ending} (h:PartOut r s ⟨i',0,a,d,t'⟩ w1 res k w') (u:Upd [r] w w1):PartOut r s ⟨i,0,a,d,t⟩ w res k w':=by
 obtain⟨h1,h2⟩:=h
 refine⟨u.trans h1,?_⟩
 cases res with
 | ok v=>obtain⟨tr,y⟩:=v;obtain⟨p,hk,hp,hr⟩:=h2;exact⟨p,hk,PartsAt.mono _ _ _ _ hp (fun k hk _=>Nat.le_trans u.size hk),hr⟩
 | error v=>obtain⟨e,b⟩:=v;obtain⟨he,p,j,t2,ps,hk,hp,hq,hr⟩:=h2;exact⟨he,p,j,t2,ps,hk,Nat.le_trans u.size hp,hq,hr⟩
theorem PartOut.ret {r:Nat} {s:ByteArray} {x:RS} {w w':World} {res:Sp.Res (Tr×Sp.At)} {k:Ending} (h:PartOut r s x w res k w'):∃ v,k=.returned v:=by
 obtain⟨_,h2⟩:=h
 cases res with
 | ok v=>obtain⟨p,hk,_⟩:=h2;exact⟨_,hk⟩
 | error v=>obtain⟨_,p,_,_,_,hk,_⟩:=h2;exact⟨_,hk⟩
theorem leaf_ok {r:Nat} {s:ByteArray} {i j:Nat} {a d t:Int} {w w2:World} {res:Sp.Res (Tr×Sp.At)} {l:Lab} (hq:res=.ok (⟨l,[]⟩,⟨j,t⟩)) (hu:Upd [r,w.heap.size] w w2) (hf:RdAt w2 r s ⟨j,0,a,d,t⟩) (hp:PtAt w2 w.heap.size (psOf l (.slice none 0 0))) :
  PartOut r s ⟨i,0,a,d,t⟩ w res (.returned (.pointer (some ⟨w.heap.size,0,none⟩))) w2:=by
 subst hq
 refine⟨(Upd.refl _ _).hide hu.swap (Nat.le_refl _),w.heap.size,rfl,?_,hf⟩
 rw [PartsAt_cons]
 exact⟨Nat.le_refl _,⟨.slice none 0 0,[],hp,⟨by simp,Or.inl ⟨rfl,rfl⟩⟩,(fun g hg=>by cases hg),PartsAt_nil _ _⟩,PartsAt_nil _ _⟩
theorem leaf_no {r:Nat} {s:ByteArray} {i i':Nat} {a d t t' e1 a1:Int} {w w2:World} {res:Sp.Res (Tr×Sp.At)} {ps:PS} (hq:res=.error (e1,a1)) (he:e1≠0) (hu:Upd [r,w.heap.size] w w2) (hf:RdAt w2 r s ⟨i',e1,a1,d,t'⟩) (hp:PtAt w2 w.heap.size ps) :
  PartOut r s ⟨i,0,a,d,t⟩ w res (.returned (.pointer (some ⟨w.heap.size,0,none⟩))) w2:=by
 subst hq
 exact⟨(Upd.refl _ _).hide hu.swap (Nat.le_refl _),he,w.heap.size,i',t',ps,rfl,Nat.le_refl _,hp,hf⟩
def dLab:Lab:={ Sp.blank with kind:=1,set:=fun c=>c == 10,not:=true }
def bps:PS:={ PS.zero with kind:=98,single:=true,min:=-1 }
theorem PtC.setSet {c:Array Value} {a:PS} (q:PtC c a) (k:Nat) (hk:k < 256) (v:Bool):PtC (c.setIfInBounds (2+k) (.bool v)) { a with set:=fun i=>if i=k then v else a.set i }:=by
 refine⟨by simp [q.size],(set_ne _ _ (by omega)).trans q.c0,(set_ne _ _ (by omega)).trans q.c1,fun i hi=>?_,(set_ne _ _ (by omega)).trans q.c258,(set_ne _ _ (by omega)).trans q.c259,(set_ne _ _ (by omega)).trans q.c260,(set_ne _ _ (by omega)).trans q.c261,(set_ne _ _ (by omega)).trans q.c262,(set_ne _ _ (by omega)).trans q.c263⟩
 by_cases e:i=k
 ·subst e;rw [set_eq _ _ (by rw [q.size];omega)];simp
 ·rw [set_ne _ _ (by omega),q.set i hi];simp [e]
theorem PtC.congr {c:Array Value} {a:PS} (q:PtC c a) (f:Nat→Bool) (hf:∀ i,i < 256→f i=a.set i):PtC c { a with set:=f }:=
 ⟨q.size,q.c0,q.c1,fun i hi=>(q.set i hi).trans (by simp [hf i hi]),q.c258,q.c259,q.c260,q.c261,q.c262,q.c263⟩
theorem PtAt.newAt {w:World} {c:Array Value} {a:PS} {n:Nat} (q:PtC c a) (hn:w.heap.size=n):PtAt (w.alloc (.cells c 126)) n a:=hn ▸ PtAt.new q
theorem size_setCell (w:World) (a:Addr) (v:Value):(w.setCell a v).heap.size=w.heap.size:=by simp [World.setCell]
def NilOut (r:Nat) (s:ByteArray) (x:RS) (w:World) (k:Ending) (w':World):Prop:=k=.returned (.pointer none)∧Upd [r] w w'∧RdAt w' r s x
set_option maxHeartbeats 400000 in
theorem atom_end (r:Nat) (s:ByteArray) (i:Nat) (a:Int) (d:Nat) (t:Int) (w:World) (h:RdAt w r s (⟨i,0,a,d,t⟩:RS)) (hs:s.size≤200) (hi:¬ i < s.size) :
  Calls Tryz.prog 85 #[.pointer (some ⟨r,0,none⟩)] w (NilOut r s (⟨i,0,a,d,t⟩:RS) w):=by
 have hr:=h.lt
 have hrp:r≠w.heap.size:=by omega
 obtain⟨c0,c1,c2,c3,c4,c5,fz⟩:=h.facts
 have hh:Hid (RdAt w r s (⟨i,0,a,d,t⟩:RS)):=h
 have hB:atB s (⟨i,0,a,d,t⟩:RS)=false:=by rw [atB_ok rfl];simpa using hi
 clear h
 go_enter Tryz.func85,Tryz.ntmps85
 go_wp2_with fail
 refine (at_any r s (⟨i,0,a,d,t⟩:RS) _ (by exact hh.out) hs).mono ?_
 rintro e w1 ⟨rfl,n,hw⟩
 have HH:Hid (RdAt w1 r s (⟨i,0,a,d,t⟩:RS)):=by rw [hw];exact hh.out
 have HU:Hid (Upd [r] w w1):=by rw [hw];exact drewN_upd _ _ _
 have hr1:r < w1.heap.size:=HH.out.lt
 have hrp1:r≠w1.heap.size:=by omega
 clear hw c0 c1 c2 c3 c4 c5 fz
 obtain⟨c0,c1,c2,c3,c4,c5,fz⟩:=HH.out.facts
 go_wp2_with fail
 go_ret
 exact⟨rfl,HU.out,HH.out⟩
set_option maxHeartbeats 400000 in
theorem atom_bar (r:Nat) (s:ByteArray) (i:Nat) (a:Int) (d:Nat) (t:Int) (w:World) (h:RdAt w r s (⟨i,0,a,d,t⟩:RS)) (hs:s.size≤200) (hi:i < s.size) (hv:Sp.byteAt s i=124) :
  Calls Tryz.prog 85 #[.pointer (some ⟨r,0,none⟩)] w (NilOut r s (⟨i,0,a,d,t⟩:RS) w):=by
 have hr:=h.lt
 have hrp:r≠w.heap.size:=by omega
 obtain⟨c0,c1,c2,c3,c4,c5,fz⟩:=h.facts
 have hh:Hid (RdAt w r s (⟨i,0,a,d,t⟩:RS)):=h
 have hB:atB s (⟨i,0,a,d,t⟩:RS)=true:=by rw [atB_ok rfl];simpa using hi
 have hV:atV s (⟨i,0,a,d,t⟩:RS)=124:=by rw [atV_in hB];exact hv
 clear h
 go_enter Tryz.func85,Tryz.ntmps85
 go_wp2_with fail
 refine (at_any r s (⟨i,0,a,d,t⟩:RS) _ (by exact hh.out) hs).mono ?_
 rintro e w1 ⟨rfl,n,hw⟩
 have HH:Hid (RdAt w1 r s (⟨i,0,a,d,t⟩:RS)):=by rw [hw];exact hh.out
 have HU:Hid (Upd [r] w w1):=by rw [hw];exact drewN_upd _ _ _
 have hr1:r < w1.heap.size:=HH.out.lt
 have hrp1:r≠w1.heap.size:=by omega
 clear hw c0 c1 c2 c3 c4 c5 fz
 obtain⟨c0,c1,c2,c3,c4,c5,fz⟩:=HH.out.facts
 go_wp2_with fail
 refine (sign_any _ _).mono ?_
 rintro e w' ⟨rfl,rfl⟩
 go_wp2_with fail
 go_ret
 exact⟨rfl,HU.out.alloc _,HH.out.alloc _⟩
set_option maxHeartbeats 400000 in
theorem atom_shut (r:Nat) (s:ByteArray) (i:Nat) (a:Int) (d:Nat) (t:Int) (w:World) (h:RdAt w r s (⟨i,0,a,d,t⟩:RS)) (hs:s.size≤200) (hi:i < s.size) (hv:Sp.byteAt s i=41) :
  Calls Tryz.prog 85 #[.pointer (some ⟨r,0,none⟩)] w (NilOut r s (⟨i,0,a,d,t⟩:RS) w):=by
 have hr:=h.lt
 have hrp:r≠w.heap.size:=by omega
 obtain⟨c0,c1,c2,c3,c4,c5,fz⟩:=h.facts
 have hh:Hid (RdAt w r s (⟨i,0,a,d,t⟩:RS)):=h
 have hB:atB s (⟨i,0,a,d,t⟩:RS)=true:=by rw [atB_ok rfl];simpa using hi
 have hV:atV s (⟨i,0,a,d,t⟩:RS)=41:=by rw [atV_in hB];exact hv
 clear h
 go_enter Tryz.func85,Tryz.ntmps85
 go_wp2_with fail
 refine (at_any r s (⟨i,0,a,d,t⟩:RS) _ (by exact hh.out) hs).mono ?_
 rintro e w1 ⟨rfl,n,hw⟩
 have HH:Hid (RdAt w1 r s (⟨i,0,a,d,t⟩:RS)):=by rw [hw];exact hh.out
 have HU:Hid (Upd [r] w w1):=by rw [hw];exact drewN_upd _ _ _
 have hr1:r < w1.heap.size:=HH.out.lt
 have hrp1:r≠w1.heap.size:=by omega
 clear hw c0 c1 c2 c3 c4 c5 fz
 obtain⟨c0,c1,c2,c3,c4,c5,fz⟩:=HH.out.facts
 go_wp2_with fail
 refine (sign_any _ _).mono ?_
 rintro e w' ⟨rfl,rfl⟩
 go_wp2_with fail
 go_ret
 exact⟨rfl,HU.out.alloc _,HH.out.alloc _⟩
set_option maxHeartbeats 400000 in
theorem atom_group (r:Nat) (s:ByteArray) (i:Nat) (a:Int) (d:Nat) (t:Int) (w:World) (h:RdAt w r s (⟨i,0,a,d,t⟩:RS)) (hs:s.size≤200) (hi:i < s.size) (hv:Sp.byteAt s i=40) (hd9:d≤8) (ht0:0≤t) (ht9:t≤9) (k:Nat) (hsub:d < 8→ChoiceC k) (hk:(d:Int)=8 - (k:Int)) :
  Calls Tryz.prog 85 #[.pointer (some ⟨r,0,none⟩)] w (PartOut r s (⟨i,0,a,d,t⟩:RS) w (Sp.atom (Sp.choice s k) s d ⟨i,t⟩)):=by
 have hr:=h.lt
 have hrp:r≠w.heap.size:=by omega
 obtain⟨c0,c1,c2,c3,c4,c5,fz⟩:=h.facts
 have hh:Hid (RdAt w r s (⟨i,0,a,d,t⟩:RS)):=h
 have HR:Hid (Sp.atom (Sp.choice s k) s d ⟨i,t⟩=Sp.group (Sp.choice s k) s d ⟨i,t⟩):=by show _=_;unfold Sp.atom;simp [isAt_ok hi,hv]
 have HK:Hid ((d:Int)=8 - (k:Int)):=hk
 clear hk
 have hB:atB s (⟨i,0,a,d,t⟩:RS)=true:=by rw [atB_ok rfl];simpa using hi
 have hV:atV s (⟨i,0,a,d,t⟩:RS)=40:=by rw [atV_in hB];exact hv
 clear h
 go_enter Tryz.func85,Tryz.ntmps85
 go_wp2_with fail
 refine (at_any r s (⟨i,0,a,d,t⟩:RS) _ (by exact hh.out) hs).mono ?_
 rintro e w1 ⟨rfl,n,hw⟩
 have HH:Hid (RdAt w1 r s (⟨i,0,a,d,t⟩:RS)):=by rw [hw];exact hh.out
 have HU:Hid (Upd [r] w w1):=by rw [hw];exact drewN_upd _ _ _
 have hr1:r < w1.heap.size:=HH.out.lt
 have hrp1:r≠w1.heap.size:=by omega
 clear hw c0 c1 c2 c3 c4 c5 fz
 obtain⟨c0,c1,c2,c3,c4,c5,fz⟩:=HH.out.facts
 go_wp2_with fail
 refine (sign_any _ _).mono ?_
 rintro e w' ⟨rfl,rfl⟩
 go_wp2_with fail
 refine (group_any r s i a d t _ (by first|exact (HH.out.set1 (i+1)).alloc _|exact (HH.out.alloc _).set1 (i+1)) hs hi hd9 ht0 ht9 k hsub HK.out).mono ?_
 intro e w5 hq5
 have HO:Hid (PartOut r s (⟨i,0,a,d,t⟩:RS) w (Sp.atom (Sp.choice s k) s d ⟨i,t⟩) e w5):=by rw [HR.out];exact hq5.from (by refine Upd.trans HU.out ?_;(repeat (first|exact Upd.refl _ _|refine Upd.drewN ?_|refine Upd.drew ?_|refine Upd.setCell ?_ (by simp) _|refine Upd.alloc ?_ _)))
 obtain⟨v,rfl⟩:∃ v,e=.returned v:=PartOut.ret hq5
 clear hq5
 go_wp2_with fail
 go_ret
 exact HO.out
set_option maxHeartbeats 400000 in
theorem atom_list (r:Nat) (s:ByteArray) (i:Nat) (a:Int) (d:Nat) (t:Int) (w:World) (h:RdAt w r s (⟨i,0,a,d,t⟩:RS)) (hs:s.size≤200) (hi:i < s.size) (hv:Sp.byteAt s i=91) (k:Nat) :
  Calls Tryz.prog 85 #[.pointer (some ⟨r,0,none⟩)] w (PartOut r s (⟨i,0,a,d,t⟩:RS) w (Sp.atom (Sp.choice s k) s d ⟨i,t⟩)):=by
 have hr:=h.lt
 have hrp:r≠w.heap.size:=by omega
 obtain⟨c0,c1,c2,c3,c4,c5,fz⟩:=h.facts
 have hh:Hid (RdAt w r s (⟨i,0,a,d,t⟩:RS)):=h
 have HR:Hid (Sp.atom (Sp.choice s k) s d ⟨i,t⟩=listR s ⟨i+1,0,a,d,t⟩):=by show _=_;unfold Sp.atom;simp [isAt_ok hi,hv];rfl
 have hB:atB s (⟨i,0,a,d,t⟩:RS)=true:=by rw [atB_ok rfl];simpa using hi
 have hV:atV s (⟨i,0,a,d,t⟩:RS)=91:=by rw [atV_in hB];exact hv
 clear h
 go_enter Tryz.func85,Tryz.ntmps85
 go_wp2_with fail
 refine (at_any r s (⟨i,0,a,d,t⟩:RS) _ (by exact hh.out) hs).mono ?_
 rintro e w1 ⟨rfl,n,hw⟩
 have HH:Hid (RdAt w1 r s (⟨i,0,a,d,t⟩:RS)):=by rw [hw];exact hh.out
 have HU:Hid (Upd [r] w w1):=by rw [hw];exact drewN_upd _ _ _
 have hr1:r < w1.heap.size:=HH.out.lt
 have hrp1:r≠w1.heap.size:=by omega
 clear hw c0 c1 c2 c3 c4 c5 fz
 obtain⟨c0,c1,c2,c3,c4,c5,fz⟩:=HH.out.facts
 go_wp2_with fail
 refine (sign_any _ _).mono ?_
 rintro e w' ⟨rfl,rfl⟩
 go_wp2_with fail
 refine (list_any r s ⟨i+1,0,a,d,t⟩ _ (by first|exact (HH.out.set1 (i+1)).alloc _|exact (HH.out.alloc _).set1 (i+1)) hs rfl (by exact hi)).mono ?_
 intro e w5 hq5
 have HO:Hid (PartOut r s (⟨i,0,a,d,t⟩:RS) w (Sp.atom (Sp.choice s k) s d ⟨i,t⟩) e w5):=by rw [HR.out];exact hq5.from (by refine Upd.trans HU.out ?_;(repeat (first|exact Upd.refl _ _|refine Upd.drewN ?_|refine Upd.drew ?_|refine Upd.setCell ?_ (by simp) _|refine Upd.alloc ?_ _)))
 obtain⟨v,rfl⟩:∃ v,e=.returned v:=PartOut.ret hq5
 clear hq5
 go_wp2_with fail
 go_ret
 exact HO.out
set_option maxHeartbeats 400000 in
theorem atom_dot (r:Nat) (s:ByteArray) (i:Nat) (a:Int) (d:Nat) (t:Int) (w:World) (h:RdAt w r s (⟨i,0,a,d,t⟩:RS)) (hs:s.size≤200) (hi:i < s.size) (hv:Sp.byteAt s i=46) (k:Nat) :
  Calls Tryz.prog 85 #[.pointer (some ⟨r,0,none⟩)] w (PartOut r s (⟨i,0,a,d,t⟩:RS) w (Sp.atom (Sp.choice s k) s d ⟨i,t⟩)):=by
 have hr:=h.lt
 have hrp:r≠w.heap.size:=by omega
 obtain⟨c0,c1,c2,c3,c4,c5,fz⟩:=h.facts
 have hh:Hid (RdAt w r s (⟨i,0,a,d,t⟩:RS)):=h
 have HR:Hid (Sp.atom (Sp.choice s k) s d ⟨i,t⟩=.ok (⟨dLab,[]⟩,⟨i+1,t⟩)):=by show _=_;unfold Sp.atom;simp [isAt_ok hi,hv];rfl
 have hB:atB s (⟨i,0,a,d,t⟩:RS)=true:=by rw [atB_ok rfl];simpa using hi
 have hV:atV s (⟨i,0,a,d,t⟩:RS)=46:=by rw [atV_in hB];exact hv
 clear h
 go_enter Tryz.func85,Tryz.ntmps85
 go_wp2_with fail
 refine (at_any r s (⟨i,0,a,d,t⟩:RS) _ (by exact hh.out) hs).mono ?_
 rintro e w1 ⟨rfl,n,hw⟩
 have HH:Hid (RdAt w1 r s (⟨i,0,a,d,t⟩:RS)):=by rw [hw];exact hh.out
 have HU:Hid (Upd [r] w w1):=by rw [hw];exact drewN_upd _ _ _
 have hr1:r < w1.heap.size:=HH.out.lt
 have hrp1:r≠w1.heap.size:=by omega
 clear hw c0 c1 c2 c3 c4 c5 fz
 obtain⟨c0,c1,c2,c3,c4,c5,fz⟩:=HH.out.facts
 have hpn:Hid (PtAt (w1.alloc (.cells (((Tryz.zeroCells126.setIfInBounds 0 (.int .u8 98)).setIfInBounds 260 (.bool true)).setIfInBounds 262 (.int .i64 (-1))) 126)) w1.heap.size bps):=PtAt.new (((PtC.zero.set0 98).set260 true).set262 (-1))
 go_wp2_with fail
 refine (sign_any _ _).mono ?_
 rintro e w' ⟨rfl,rfl⟩
 go_wp2_with fail
 go_ret
 refine PartOut.from (leaf_ok (i:=i) (w:=w1) (j:=i+1) (l:=dLab) HR.out (by (repeat (first|exact Upd.refl _ _|refine Upd.drewN ?_|refine Upd.drew ?_|refine Upd.setCell ?_ (by simp) _|refine Upd.alloc ?_ _))) (by exact (HH.out.set1 (i+1)).alloc _) ?_) HU.out
 exact PtAt.newAt (((((((((PtC.zero.set0 98).set260 true).set262 (-1)).set259 true).set260 false).set258 true).setSet 10 (by decide) true).congr _ (fun q _=>by unfold dLab;simp [PS.zero,Bool.beq_eq_decide_eq]))) (size_setCell _ _ _)
set_option maxHeartbeats 400000 in
theorem atom_byte (r:Nat) (s:ByteArray) (i:Nat) (a:Int) (d:Nat) (t:Int) (w:World) (h:RdAt w r s (⟨i,0,a,d,t⟩:RS)) (hs:s.size≤200) (hi:i < s.size) (n1:Sp.byteAt s i≠40) (n2:Sp.byteAt s i≠91) (n3:Sp.byteAt s i≠46) (n4:Sp.byteAt s i≠92) (n5:Sp.byteAt s i≠124) (n6:Sp.byteAt s i≠41) (hg:Sp.sign (Sp.byteAt s i)=false) (k:Nat) :
  Calls Tryz.prog 85 #[.pointer (some ⟨r,0,none⟩)] w (PartOut r s (⟨i,0,a,d,t⟩:RS) w (Sp.atom (Sp.choice s k) s d ⟨i,t⟩)):=by
 have hr:=h.lt
 have hrp:r≠w.heap.size:=by omega
 obtain⟨c0,c1,c2,c3,c4,c5,fz⟩:=h.facts
 have hh:Hid (RdAt w r s (⟨i,0,a,d,t⟩:RS)):=h
 have HR:Hid (Sp.atom (Sp.choice s k) s d ⟨i,t⟩=.ok (⟨bLab (Sp.byteAt s i),[]⟩,⟨i+1,t⟩)):=by show _=_;unfold Sp.atom;simp [isAt_ok hi,isAt_out,n1,n2,n3];simp [Sp.byteBut,isAt_ok hi,n4,hi,hg];rfl
 have hB:atB s (⟨i,0,a,d,t⟩:RS)=true:=by rw [atB_ok rfl];simpa using hi
 have HV:Hid (atV s (⟨i,0,a,d,t⟩:RS)=Sp.byteAt s i):=atV_in hB
 have g1:(atV s (⟨i,0,a,d,t⟩:RS) == 40)=false:=by rw [HV.out];simpa using n1
 have g2:(atV s (⟨i,0,a,d,t⟩:RS) == 91)=false:=by rw [HV.out];simpa using n2
 have g3:(atV s (⟨i,0,a,d,t⟩:RS) == 46)=false:=by rw [HV.out];simpa using n3
 have g4:(atV s (⟨i,0,a,d,t⟩:RS) == 92)=false:=by rw [HV.out];simpa using n4
 have g5:(atV s (⟨i,0,a,d,t⟩:RS) == 124)=false:=by rw [HV.out];simpa using n5
 have g6:(atV s (⟨i,0,a,d,t⟩:RS) == 41)=false:=by rw [HV.out];simpa using n6
 have g7:Sp.sign (atV s (⟨i,0,a,d,t⟩:RS))=false:=by rw [HV.out];exact hg
 have b0:=atV_lo s (⟨i,0,a,d,t⟩:RS)
 have b1:=atV_hi s (⟨i,0,a,d,t⟩:RS)
 clear n1 n2 n3 n4 n5 n6 hg
 clear h
 go_enter Tryz.func85,Tryz.ntmps85
 go_wp2_with fail
 refine (at_any r s (⟨i,0,a,d,t⟩:RS) _ (by exact hh.out) hs).mono ?_
 rintro e w1 ⟨rfl,n,hw⟩
 have HH:Hid (RdAt w1 r s (⟨i,0,a,d,t⟩:RS)):=by rw [hw];exact hh.out
 have HU:Hid (Upd [r] w w1):=by rw [hw];exact drewN_upd _ _ _
 have hr1:r < w1.heap.size:=HH.out.lt
 have hrp1:r≠w1.heap.size:=by omega
 clear hw c0 c1 c2 c3 c4 c5 fz
 obtain⟨c0,c1,c2,c3,c4,c5,fz⟩:=HH.out.facts
 have hpn:Hid (PtAt (w1.alloc (.cells (((Tryz.zeroCells126.setIfInBounds 0 (.int .u8 98)).setIfInBounds 260 (.bool true)).setIfInBounds 262 (.int .i64 (-1))) 126)) w1.heap.size bps):=PtAt.new (((PtC.zero.set0 98).set260 true).set262 (-1))
 go_wp2_with fail
 refine (sign_any _ _).mono ?_
 rintro e w3 ⟨rfl,hw3⟩
 have HP3:Hid (PtAt w3 w1.heap.size bps):=by rw [hw3];exact hpn.out
 have HU3:Hid (Upd [r,w1.heap.size] w1 w3):=by rw [hw3];exact (Upd.refl _ _).alloc _
 have HF3:Hid (RdAt w3 r s (⟨i,0,a,d,t⟩:RS)):=by rw [hw3];exact HH.out.alloc _
 have hcell:=HP3.out.setFact (atV s (⟨i,0,a,d,t⟩:RS)).toNat (by omega)
 have hpz:=HP3.out.facts.fz
 clear hw3 c0 c1 c2 c3 c4 c5 fz
 obtain⟨c0,c1,c2,c3,c4,c5,fz⟩:=HF3.out.facts
 go_wp2_with fail
 go_ret
 refine PartOut.from (leaf_ok (i:=i) (w:=w1) (j:=i+1) (l:=bLab (Sp.byteAt s i)) HR.out ((HU3.out.setCell (p:=⟨r,1,none⟩) (by simp) _).setCell (by simp) _) (by exact (HF3.out.set1 (i+1)).other hrp1 _ _) ?_) HU.out
 exact ((HP3.out.other hrp1.symm 1 _).setSet (atV s (⟨i,0,a,d,t⟩:RS)).toNat (by omega) true).congr _ (fun q _=>by unfold bLab;rw [HV.out];simp [bps,PS.zero,Bool.beq_eq_decide_eq])
set_option maxHeartbeats 400000 in
theorem atom_sign (r:Nat) (s:ByteArray) (i:Nat) (a:Int) (d:Nat) (t:Int) (w:World) (h:RdAt w r s (⟨i,0,a,d,t⟩:RS)) (hs:s.size≤200) (hi:i < s.size) (n1:Sp.byteAt s i≠40) (n2:Sp.byteAt s i≠91) (n3:Sp.byteAt s i≠46) (n4:Sp.byteAt s i≠92) (n5:Sp.byteAt s i≠124) (n6:Sp.byteAt s i≠41) (hg:Sp.sign (Sp.byteAt s i)=true) (k:Nat) :
  Calls Tryz.prog 85 #[.pointer (some ⟨r,0,none⟩)] w (PartOut r s (⟨i,0,a,d,t⟩:RS) w (Sp.atom (Sp.choice s k) s d ⟨i,t⟩)):=by
 have hr:=h.lt
 have hrp:r≠w.heap.size:=by omega
 obtain⟨c0,c1,c2,c3,c4,c5,fz⟩:=h.facts
 have hh:Hid (RdAt w r s (⟨i,0,a,d,t⟩:RS)):=h
 have HR:Hid (Sp.atom (Sp.choice s k) s d ⟨i,t⟩=.error (3,i)):=by show _=_;unfold Sp.atom;simp [isAt_ok hi,isAt_out,n1,n2,n3];simp [Sp.byteBut,isAt_ok hi,n4,hi,hg]
 have hB:atB s (⟨i,0,a,d,t⟩:RS)=true:=by rw [atB_ok rfl];simpa using hi
 have HV:Hid (atV s (⟨i,0,a,d,t⟩:RS)=Sp.byteAt s i):=atV_in hB
 have g1:(atV s (⟨i,0,a,d,t⟩:RS) == 40)=false:=by rw [HV.out];simpa using n1
 have g2:(atV s (⟨i,0,a,d,t⟩:RS) == 91)=false:=by rw [HV.out];simpa using n2
 have g3:(atV s (⟨i,0,a,d,t⟩:RS) == 46)=false:=by rw [HV.out];simpa using n3
 have g4:(atV s (⟨i,0,a,d,t⟩:RS) == 92)=false:=by rw [HV.out];simpa using n4
 have g5:(atV s (⟨i,0,a,d,t⟩:RS) == 124)=false:=by rw [HV.out];simpa using n5
 have g6:(atV s (⟨i,0,a,d,t⟩:RS) == 41)=false:=by rw [HV.out];simpa using n6
 have g7:Sp.sign (atV s (⟨i,0,a,d,t⟩:RS))=true:=by rw [HV.out];exact hg
 have b0:=atV_lo s (⟨i,0,a,d,t⟩:RS)
 have b1:=atV_hi s (⟨i,0,a,d,t⟩:RS)
 clear n1 n2 n3 n4 n5 n6 hg
 clear h
 go_enter Tryz.func85,Tryz.ntmps85
 go_wp2_with fail
 refine (at_any r s (⟨i,0,a,d,t⟩:RS) _ (by exact hh.out) hs).mono ?_
 rintro e w1 ⟨rfl,n,hw⟩
 have HH:Hid (RdAt w1 r s (⟨i,0,a,d,t⟩:RS)):=by rw [hw];exact hh.out
 have HU:Hid (Upd [r] w w1):=by rw [hw];exact drewN_upd _ _ _
 have hr1:r < w1.heap.size:=HH.out.lt
 have hrp1:r≠w1.heap.size:=by omega
 clear hw c0 c1 c2 c3 c4 c5 fz
 obtain⟨c0,c1,c2,c3,c4,c5,fz⟩:=HH.out.facts
 have hpn:Hid (PtAt (w1.alloc (.cells (((Tryz.zeroCells126.setIfInBounds 0 (.int .u8 98)).setIfInBounds 260 (.bool true)).setIfInBounds 262 (.int .i64 (-1))) 126)) w1.heap.size bps):=PtAt.new (((PtC.zero.set0 98).set260 true).set262 (-1))
 go_wp2_with fail
 refine (sign_any _ _).mono ?_
 rintro e w' ⟨rfl,rfl⟩
 go_wp2_with fail
 refine (fail_any r s (⟨i,0,a,d,t⟩:RS) _ _ _ (by exact HH.out.alloc _)).mono ?_
 rw [RS.fail_ok rfl]
 rintro e w3 ⟨rfl,hu3,hf3⟩
 have HP3:Hid (PtAt w3 w1.heap.size bps):=hpn.out.upd hu3 (by simpa using hrp1.symm)
 have HU3:Hid (Upd [r,w1.heap.size] w1 w3):=((Upd.refl _ _).alloc _).trans hu3.one
 have HF3:Hid (RdAt w3 r s ⟨i,3,i,d,t⟩):=hf3
 have hcell:=HP3.out.setFact (atV s (⟨i,0,a,d,t⟩:RS)).toNat (by omega)
 have hpz:=HP3.out.facts.fz
 clear hu3 hf3
 go_wp2_with fail
 go_ret
 exact PartOut.from (leaf_no (i:=i) (t:=t) (w:=w1) HR.out (by decide) (HU3.out.setCell (by simp) _) (HF3.out.other hrp1 _ _) (HP3.out.setSet (atV s (⟨i,0,a,d,t⟩:RS)).toNat (by omega) true)) HU.out
set_option maxHeartbeats 400000 in
theorem atom_escape (r:Nat) (s:ByteArray) (i:Nat) (a:Int) (d:Nat) (t:Int) (w:World) (h:RdAt w r s (⟨i,0,a,d,t⟩:RS)) (hs:s.size≤200) (hi:i < s.size) (hv:Sp.byteAt s i=92) (k:Nat) :
  Calls Tryz.prog 85 #[.pointer (some ⟨r,0,none⟩)] w (PartOut r s (⟨i,0,a,d,t⟩:RS) w (Sp.atom (Sp.choice s k) s d ⟨i,t⟩)):=by
 have hr:=h.lt
 have hrp:r≠w.heap.size:=by omega
 obtain⟨c0,c1,c2,c3,c4,c5,fz⟩:=h.facts
 have hh:Hid (RdAt w r s (⟨i,0,a,d,t⟩:RS)):=h
 have HR:Hid (Sp.atom (Sp.choice s k) s d ⟨i,t⟩=match Sp.escape s (i+1) with | .error f=>.error f | .ok (b,j)=>.ok (⟨bLab b,[]⟩,⟨j,t⟩)):=by show _=_;unfold Sp.atom;simp [isAt_ok hi,hv];simp [Sp.byteBut,isAt_ok hi,hv];rfl
 have hB:atB s (⟨i,0,a,d,t⟩:RS)=true:=by rw [atB_ok rfl];simpa using hi
 have hV:atV s (⟨i,0,a,d,t⟩:RS)=92:=by rw [atV_in hB];exact hv
 clear h
 go_enter Tryz.func85,Tryz.ntmps85
 go_wp2_with fail
 refine (at_any r s (⟨i,0,a,d,t⟩:RS) _ (by exact hh.out) hs).mono ?_
 rintro e w1 ⟨rfl,n,hw⟩
 have HH:Hid (RdAt w1 r s (⟨i,0,a,d,t⟩:RS)):=by rw [hw];exact hh.out
 have HU:Hid (Upd [r] w w1):=by rw [hw];exact drewN_upd _ _ _
 have hr1:r < w1.heap.size:=HH.out.lt
 have hrp1:r≠w1.heap.size:=by omega
 clear hw c0 c1 c2 c3 c4 c5 fz
 obtain⟨c0,c1,c2,c3,c4,c5,fz⟩:=HH.out.facts
 go_wp2_with fail
 refine (sign_any _ _).mono ?_
 rintro e w' ⟨rfl,rfl⟩
 go_wp2_with fail
 refine (escape_any r s ⟨i+1,0,a,d,t⟩ _ (by first|exact (HH.out.set1 (i+1)).alloc _|exact (HH.out.alloc _).set1 (i+1)) hs rfl).mono ?_
 rintro e w3 ⟨hu3,hq3⟩
 have hpn':PtAt ((w1.setCell ⟨r,1,none⟩ (.int .i64 (i+1))).alloc (.cells (((Tryz.zeroCells126.setIfInBounds 0 (.int .u8 98)).setIfInBounds 260 (.bool true)).setIfInBounds 262 (.int .i64 (-1))) 126)) w1.heap.size bps:=PtAt.newAt (((PtC.zero.set0 98).set260 true).set262 (-1)) (size_setCell _ _ _)
 have HP3:Hid (PtAt w3 w1.heap.size bps):=hpn'.upd hu3 (by simpa using hrp1.symm)
 have HU3:Hid (Upd [r,w1.heap.size] w1 w3):=(by refine Upd.trans ?_ hu3.one;(repeat (first|exact Upd.refl _ _|refine Upd.drewN ?_|refine Upd.drew ?_|refine Upd.setCell ?_ (by simp) _|refine Upd.alloc ?_ _)):Upd [r,w1.heap.size] w1 w3)
 have hpz:=HP3.out.facts.fz
 clear hu3 hpn'
 revert hq3
 cases hr3:Sp.escape s (i+1)
 case error f=>
  obtain⟨e1,a1⟩:=f
  rintro ⟨v,i',h0,h1,rfl,hf3⟩
  have HE1:Hid (e1≠0):=by show _≠_;rw [escape_err hr3];decide
  have HR':Hid (Sp.atom (Sp.choice s k) s d ⟨i,t⟩=.error (e1,a1)):=by show _=_;rw [HR.out,hr3]
  have hcell:=HP3.out.setFact v.toNat (by omega)
  have HF3:Hid (RdAt w3 r s ⟨i',e1,a1,d,t⟩):=hf3
  clear hr3 hf3
  go_wp2_with fail
  go_ret
  exact PartOut.from (leaf_no (i:=i) (t:=t) (w:=w1) HR'.out HE1.out (HU3.out.setCell (by simp) _) (HF3.out.other hrp1 _ _) (HP3.out.setSet v.toNat (by omega) true)) HU.out
 case ok f=>
  obtain⟨v,j⟩:=f
  rintro ⟨rfl,hf3⟩
  obtain⟨h0,h1,_,_⟩:=escape_ok hr3
  have HR':Hid (Sp.atom (Sp.choice s k) s d ⟨i,t⟩=.ok (⟨bLab v,[]⟩,⟨j,t⟩)):=by show _=_;rw [HR.out,hr3]
  have hcell:=HP3.out.setFact v.toNat (by omega)
  have HF3:Hid (RdAt w3 r s ⟨j,0,a,d,t⟩):=hf3
  clear hr3 hf3
  go_wp2_with fail
  go_ret
  refine PartOut.from (leaf_ok (i:=i) (w:=w1) (j:=j) (l:=bLab v) HR'.out (HU3.out.setCell (by simp) _) (HF3.out.other hrp1 _ _) ?_) HU.out
  exact (HP3.out.setSet v.toNat (by omega) true).congr _ (fun q _=>by unfold bLab;simp [bps,PS.zero,Bool.beq_eq_decide_eq])
theorem over_iff {s:ByteArray} {i:Nat} (h:Sp.over s i=false):i < s.size∧Sp.byteAt s i≠124∧Sp.byteAt s i≠41:=by
 simp [Sp.over,Sp.isAt] at h
 exact⟨by omega,h.1.2 (by omega),h.2 (by omega)⟩
theorem atom_any (r:Nat) (s:ByteArray) (i:Nat) (a:Int) (d:Nat) (t:Int) (w:World) (h:RdAt w r s (⟨i,0,a,d,t⟩:RS)) (hs:s.size≤200) (hd9:d≤8) (ht0:0≤t) (ht9:t≤9) (k:Nat) (hsub:d < 8→ChoiceC k) (hk:(d:Int)=8 - (k:Int)) (ho:Sp.over s i=false) :
  Calls Tryz.prog 85 #[.pointer (some ⟨r,0,none⟩)] w (PartOut r s (⟨i,0,a,d,t⟩:RS) w (Sp.atom (Sp.choice s k) s d ⟨i,t⟩)):=by
 obtain⟨hi,n5,n6⟩:=over_iff ho
 by_cases n1:Sp.byteAt s i=40
 ·exact atom_group r s i a d t w h hs hi n1 hd9 ht0 ht9 k hsub hk
 by_cases n2:Sp.byteAt s i=91
 ·exact atom_list r s i a d t w h hs hi n2 k
 by_cases n3:Sp.byteAt s i=46
 ·exact atom_dot r s i a d t w h hs hi n3 k
 by_cases n4:Sp.byteAt s i=92
 ·exact atom_escape r s i a d t w h hs hi n4 k
 by_cases hg:Sp.sign (Sp.byteAt s i)=true
 ·exact atom_sign r s i a d t w h hs hi n1 n2 n3 n4 n5 n6 hg k
 ·exact atom_byte r s i a d t w h hs hi n1 n2 n3 n4 n5 n6 (by simpa using hg) k
theorem atom_over (r:Nat) (s:ByteArray) (i:Nat) (a:Int) (d:Nat) (t:Int) (w:World) (h:RdAt w r s (⟨i,0,a,d,t⟩:RS)) (hs:s.size≤200) (ho:Sp.over s i=true) :
  Calls Tryz.prog 85 #[.pointer (some ⟨r,0,none⟩)] w (NilOut r s (⟨i,0,a,d,t⟩:RS) w):=by
 by_cases hi:i < s.size
 ·by_cases h1:Sp.byteAt s i=124
  ·exact atom_bar r s i a d t w h hs hi h1
  by_cases h2:Sp.byteAt s i=41
  ·exact atom_shut r s i a d t w h hs hi h2
  ·simp [Sp.over,Sp.isAt,hi,h1,h2] at ho;omega
 ·exact atom_end r s i a d t w h hs hi
structure Kids (w:World) (p:Nat) (l:Value) (qs:List Nat) (ts:List Tr):Prop where
 own:w.ownsRow (p+1) 74 1 l qs.length (qs.map ptr)
 parts:PartsAt w (fun k=>p < k∧l.ownBlock≠some k) qs ts
theorem Kids.empty (w:World) (p:Nat):Kids w p (.slice none 0 0) [] []:=⟨⟨by simp,Or.inl ⟨rfl,rfl⟩⟩,PartsAt_nil _ _⟩
theorem Kids.same {w w':World} {p:Nat} {l:Value} {qs:List Nat} {ts:List Tr} (h:Kids w p l qs ts) (hb:∀ k,p < k→k < w.heap.size→w'.heap[k]?=w.heap[k]?):Kids w' p l qs ts:=
 ⟨ownsRow_same h.own (fun g hg hl=>hb g (by have:=(ownBlock_lt h.own hg).2;omega) hl),PartsAt.same _ _ _ h.parts (fun k hk hl=>hb k hk.1 hl)⟩
theorem Kids.upd {w w':World} {p:Nat} {l:Value} {qs:List Nat} {ts:List Tr} (h:Kids w p l qs ts) {r:Nat} (u:Upd [r] w w') (hr:r≤p):Kids w' p l qs ts:=
 h.same (fun k hk hl=>u.block k hl (by simp;omega))
theorem own_le {w3 w5:World} {p:Nat} {l:Value} {n:Nat} {xs:List Value} {o:Obj} (hg:(w3.alloc o).grownBy w5 l.ownBlock) {wr:World} (hown:wr.ownsRow (p+1) 74 1 l n xs) (k:Nat) (hk:k≤p) (hl:k < w3.heap.size):w5.heap[k]?=w3.heap[k]?:=by
 rw [hg.block k (by simp;omega) (fun e=>by have:=(ownBlock_lt hown e.symm).2;omega)]
 exact Below.heap_alloc _ _ _ hl
theorem Kids.step {wr w3 w5:World} {p q:Nat} {l v':Value} {qs:List Nat} {ts:List Tr} {t':Tr} {o:Obj} (hk:Kids wr p l qs ts) (hq:PartsAt w3 (fun k=>wr.heap.size≤k) [q] [t']) (hp:p < wr.heap.size)
  (hu:∀ k,p < k→k < wr.heap.size→w3.heap[k]?=wr.heap[k]?) (hsz:wr.heap.size≤w3.heap.size) (hown:w5.ownsRow (p+1) 74 1 v' (qs.length+1) (qs.map ptr++[ptr q]))
  (hg:(w3.alloc o).grownBy w5 l.ownBlock) (hloc:v'.ownBlock=l.ownBlock∨v'.ownBlock=some (w3.heap.size+1)):Kids (w5.setCell ⟨p,1,none⟩ v') p v' (qs++[q]) (ts++[t']):=by
 have hs4:(w3.alloc o).heap.size=w3.heap.size+1:=by simp
 have hl:∀ g,l.ownBlock=some g→g < wr.heap.size:=fun g hg=>(ownBlock_lt hk.own hg).1
 have hv:∀ g,v'.ownBlock=some g→p < g:=fun g hg=>by have:=(ownBlock_lt hown hg).2;omega
 have b5:∀ k,k < w3.heap.size→l.ownBlock≠some k→w5.heap[k]?=w3.heap[k]?:=fun k hk hn=>by
  rw [hg.block k (by omega) (fun e=>hn e.symm)];exact Below.heap_alloc _ _ _ hk
 have b6:∀ k,k≠p→(w5.setCell ⟨p,1,none⟩ v').heap[k]?=w5.heap[k]?:=fun k hk=>Below.heap_setCell _ _ _ _ hk
 refine⟨ownsRow_same (by simpa using hown) (fun g hg _=>b6 g (by have:=hv g hg;omega)),?_⟩
 refine PartsAt.append _ _ _ _ ?_ ?_
 ·have h1:PartsAt wr (fun k=>(p < k∧l.ownBlock≠some k)∧v'.ownBlock≠some k) qs ts:=PartsAt.mono _ _ _ _ hk.parts (fun k hk hl'=>⟨hk,fun e=>by
   rcases hloc with q|q
   ·exact hk.2 (q ▸ e)
   ·rw [q] at e;simp at e;omega⟩)
  have h2:PartsAt (w5.setCell ⟨p,1,none⟩ v') (fun k=>(p < k∧l.ownBlock≠some k)∧v'.ownBlock≠some k) qs ts:=PartsAt.same _ _ _ h1 (fun k hk hl'=>by
   rw [b6 k (by omega),b5 k (by omega) hk.1.2,hu k hk.1.1 hl'])
  exact PartsAt.mono _ _ _ _ h2 (fun k hk _=>⟨hk.1.1,hk.2⟩)
 ·have h1:PartsAt w3 (fun k=>wr.heap.size≤k∧k < w3.heap.size) [q] [t']:=PartsAt.mono _ _ _ _ hq (fun k hk hl'=>⟨hk,hl'⟩)
  have h2:PartsAt (w5.setCell ⟨p,1,none⟩ v') (fun k=>wr.heap.size≤k∧k < w3.heap.size) [q] [t']:=PartsAt.same _ _ _ h1 (fun k hk hl'=>by
   rw [b6 k (by omega),b5 k hl' (fun e=>by have:=hl k e;omega)])
  exact PartsAt.mono _ _ _ _ h2 (fun k hk _=>⟨by omega,fun e=>by
   rcases hloc with q|q
   ·have:=hl k (q ▸ e);omega
   ·rw [q] at e;simp at e;omega⟩)
theorem part_count {w2 w3:World} {r q:Nat} {S:Nat→Prop} {t:Tr} {m n:Int} {l:Value} {qs:List Nat} (h:PtAt w3 q (psOf { t.lab with min:=m,max:=n } l)) (hS:S q) (hown:w2.ownsRow (q+1) 74 1 l qs.length (qs.map ptr)) (hl:∀ g,l.ownBlock=some g→S g)
  (hp:PartsAt w2 (fun k=>S k∧q < k∧l.ownBlock≠some k) qs t.kids) (u:Upd [r,q] w2 w3) (hr:¬ S r):PartsAt w3 S [q] [⟨{ t.lab with min:=m,max:=n },t.kids⟩]:=by
 rw [PartsAt_cons]
 refine⟨hS,⟨l,qs,h,ownsRow_same hown (fun g hg hlt=>u.block g hlt ?_),hl,hp.upd u ?_⟩,PartsAt_nil _ _⟩
 ·have:=(ownBlock_lt hown hg).2
  simp;exact⟨fun e=>hr (e ▸ hl g hg),by omega⟩
 ·intro k hk;simp at hk;rcases hk with rfl|rfl
  ·exact fun e=>hr e.1
  ·exact fun e=>absurd e.2.1 (Nat.lt_irrefl _)
theorem infoPart:∃ i,Tryz.prog.info? 74=some i∧i.zero=some (.pointer none)∧i.size=1∧i.bytes=8:=by
 have h:(Tryz.prog.info? 74).map (fun i=>(i.zero,i.size,i.bytes))=some (some (.pointer none),1,8):=by kernel_rfl
 cases hi:Tryz.prog.info? 74 with
 | none=>rw [hi] at h;cases h
 | some i=>rw [hi] at h;simp at h;exact⟨i,rfl,h.1,h.2.1,h.2.2⟩
structure RowInv (r:Nat) (s:ByteArray) (i0:Nat) (a:Int) (d:Nat) (t0:Int) (sub:Sp.At→Sp.Res (Tr×Sp.At)) (w:World) (n:Nat) (wr:World):Prop where
 upd:Upd [r] w wr
 st:(∃ y ts qs l,RdAt wr r s ⟨y.i,0,a,d,y.t⟩∧PtAt wr w.heap.size (psOf rLab l)∧Kids wr w.heap.size l qs ts∧Sp.parts sub s d (s.size+1) [] ⟨i0,t0⟩=Sp.parts sub s d n ts y∧s.size+1≤n+y.i∧y.i≤s.size∧ts.length≤y.i∧0≤y.t∧y.t≤9)∨
  (n=0∧∃ e1 a1 i' t' ps,e1≠0∧Sp.parts sub s d (s.size+1) [] ⟨i0,t0⟩=.error (e1,a1)∧RdAt wr r s ⟨i',e1,a1,d,t'⟩∧PtAt wr w.heap.size ps)
theorem row_fin {r:Nat} {s:ByteArray} {i0:Nat} {a d' t0:Int} {d:Nat} {sub:Sp.At→Sp.Res (Tr×Sp.At)} {w w2:World} {y:Sp.At} {ts:List Tr} {qs:List Nat} {l:Value} {tr:Tr} {res:Sp.Res (Tr×Sp.At)} {lab:Lab} (hq:res=.ok (⟨lab,ts⟩,y))
  (hu:Upd [r] w w2) (hf:RdAt w2 r s ⟨y.i,0,a,d',y.t⟩) (hp:PtAt w2 w.heap.size (psOf lab l)) (hk:Kids w2 w.heap.size l qs ts):PartOut r s ⟨i0,0,a,d',t0⟩ w res (.returned (.pointer (some ⟨w.heap.size,0,none⟩))) w2:=by
 subst hq
 refine⟨hu,w.heap.size,rfl,?_,hf⟩
 rw [PartsAt_cons]
 exact⟨Nat.le_refl _,⟨l,qs,hp,hk.own,fun g hg=>by have:=(ownBlock_lt hk.own hg).2;omega,PartsAt.mono _ _ _ _ hk.parts (fun k hk _=>⟨by omega,hk⟩)⟩,PartsAt_nil _ _⟩
theorem row_no {r:Nat} {s:ByteArray} {i0 i':Nat} {a d' t0 t' e1 a1:Int} {w w2:World} {ps:PS} {res:Sp.Res (Tr×Sp.At)} (hq:res=.error (e1,a1)) (he:e1≠0)
  (hu:Upd [r] w w2) (hf:RdAt w2 r s ⟨i',e1,a1,d',t'⟩) (hp:PtAt w2 w.heap.size ps):PartOut r s ⟨i0,0,a,d',t0⟩ w res (.returned (.pointer (some ⟨w.heap.size,0,none⟩))) w2:=by
 subst hq
 exact⟨hu,he,w.heap.size,i',t',ps,rfl,Nat.le_refl _,hp,hf⟩
set_option maxHeartbeats 1000000 in
theorem row_any (r:Nat) (s:ByteArray) (i0:Nat) (a:Int) (d:Nat) (t0:Int) (w:World) (h:RdAt w r s ⟨i0,0,a,d,t0⟩) (hs:s.size≤200) (hi0:i0≤s.size) (hd9:d≤8) (ht0:0≤t0) (ht9:t0≤9) (k:Nat) (hsub:d < 8→ChoiceC k) (hk:(d:Int)=8 - (k:Int)) :
  Calls Tryz.prog 63 #[.pointer (some ⟨r,0,none⟩)] w (PartOut r s ⟨i0,0,a,d,t0⟩ w (Sp.row (Sp.choice s k) s d ⟨i0,t0⟩)):=by
 have hr:=h.lt
 have hrp:r≠w.heap.size:=by omega
 obtain⟨it,hi1,hi2,hi3,hi4⟩:=infoPart
 have HI:Hid (Tryz.prog.info? 74=some it∧it.zero=some (.pointer none)∧it.size=1∧it.bytes=8):=⟨hi1,hi2,hi3,hi4⟩
 have HK:Hid ((d:Int)=8 - (k:Int)):=hk
 have hh:Hid (RdAt w r s ⟨i0,0,a,d,t0⟩):=h
 have hpn:Hid (PtAt (w.alloc (.cells ((Tryz.zeroCells126.setIfInBounds 0 (.int .u8 32)).setIfInBounds 262 (.int .i64 (-1))) 126)) w.heap.size (psOf rLab (.slice none 0 0))):=PtAt.new ((PtC.zero.set0 32).set262 (-1))
 clear h hk hi1 hi2 hi3 hi4
 go_enter Tryz.func63,Tryz.ntmps63
 go_wp2_with fail
 go_loopg [] (s.size+1) (fun gn wr=>RowInv r s i0 a d t0 (Sp.choice s k) w gn wr)
 case atStart=>exact⟨(Upd.refl _ _).alloc _,Or.inl ⟨⟨i0,t0⟩,[],[],_,hh.out.alloc _,hpn.out,Kids.empty _ _,rfl,by simp,hi0,by simp,ht0,ht9⟩⟩
 case round=>
  clear hpn hh
  obtain⟨hu,hst⟩:=hrel
  rcases hst with ⟨y,ts,qs,l,hf,hp,hkid,heq,hgn,hys,hlen,hy0,hy9⟩|⟨rfl,e1,a1,i',t',ps,he1,heq,hf,hp⟩
  ·obtain⟨fuel,rfl⟩:∃ n,gk=n+1:=⟨gk - 1,by omega⟩
   obtain⟨c0,c1,c2,c3,c4,c5,fz⟩:=hf.facts
   have HF:Hid (RdAt wr r s ⟨y.i,0,a,d,y.t⟩):=hf
   have HP:Hid (PtAt wr w.heap.size (psOf rLab l)):=hp
   have HU:Hid (Upd [r] w wr):=hu
   have HD:Hid (Kids wr w.heap.size l qs ts):=hkid
   have HQ:Hid (Sp.parts (Sp.choice s k) s d (s.size+1) [] ⟨i0,t0⟩=Sp.parts (Sp.choice s k) s d (fuel+1) ts y):=heq
   clear hf hp hu heq hkid
   cases ho:Sp.over s y.i
   case true=>
    have HR:Hid (Sp.row (Sp.choice s k) s d ⟨i0,t0⟩=.ok (⟨rLab,ts⟩,y)):=by show _=_;unfold Sp.row;rw [HQ.out];unfold Sp.parts;simp [ho];rfl
    go_wp2_with fail
    refine (atom_over r s y.i a d y.t _ (by exact HF.out) hs ho).mono ?_
    rintro e w2 ⟨rfl,hu2,hf2⟩
    have HU2:Hid (Upd [r] w w2):=HU.out.trans hu2
    have HP2:Hid (PtAt w2 w.heap.size (psOf rLab l)):=HP.out.upd hu2 (by simpa using hrp.symm)
    have HD2:Hid (Kids w2 w.heap.size l qs ts):=HD.out.upd hu2 (by omega)
    have HF2:Hid (RdAt w2 r s ⟨y.i,0,a,d,y.t⟩):=hf2
    clear hu2 hf2 ho
    go_wp2_with fail
    go_ret
    exact row_fin (d:=d) (sub:=Sp.choice s k) (tr:=⟨rLab,ts⟩) HR.out HU2.out HF2.out HP2.out HD2.out
   case false=>
    go_wp2_with fail
    refine (atom_any r s y.i a d y.t _ (by exact HF.out) hs hd9 hy0 hy9 k hsub HK.out ho).mono ?_
    rintro e w2 ⟨hu2,hq2⟩
    have hwr:w.heap.size < wr.heap.size:=HP.out.lt
    have HP2:Hid (PtAt w2 w.heap.size (psOf rLab l)):=HP.out.upd hu2 (by simpa using hrp.symm)
    have HU2:Hid (Upd [r] w w2):=HU.out.trans hu2
    have HW2:Hid (Upd [r] wr w2):=hu2
    have HO:Hid (Sp.over s y.i=false):=ho
    clear hu2 ho c0 c1 c2 c3 c4 c5 fz
    revert hq2
    cases hr2:Sp.atom (Sp.choice s k) s d y
    case error f=>
     obtain⟨e1,a1⟩:=f
     rintro ⟨he1,q,i',t',ps2,rfl,hq2,hpq,hf2⟩
     have HE1:Hid (e1≠0):=he1
     have HR:Hid (Sp.parts (Sp.choice s k) s d (s.size+1) [] ⟨i0,t0⟩=.error (e1,a1)):=by show _=_;rw [HQ.out];unfold Sp.parts Sp.part;rw [HO.out,hr2];rfl
     have HF2:Hid (RdAt w2 r s ⟨i',e1,a1,d,t'⟩):=hf2
     have HD2:Hid (Kids w2 w.heap.size l qs ts):=HD.out.upd HW2.out (by omega)
     have hql:qs.length≤200:=by have:=PartsAt.length _ _ HD.out.parts;omega
     clear hf2 hr2 he1
     unfold ptr
     go_wp2_with fail
     refine (count_err r q s ⟨i',e1,a1,d,t'⟩ _ (by exact HF2.out) hs HE1.out).mono ?_
     rintro e w3 ⟨rfl,n3,hw3⟩
     have HF3:Hid (RdAt w3 r s ⟨i',e1,a1,d,t'⟩):=by rw [hw3];exact HF2.out
     have HP3:Hid (PtAt w3 w.heap.size (psOf rLab l)):=by rw [hw3];exact HP2.out
     have HD3:Hid (Kids w3 w.heap.size l qs ts):=HD2.out.same (fun k _ _=>by rw [hw3];rfl)
     have HU3:Hid (Upd [r] w w3):=by rw [hw3];exact HU2.out.drewN
     have hp3:w.heap.size < w3.heap.size:=HP3.out.lt
     clear hw3 HP2 HF2 HU2 HD2 HW2
     obtain⟨p0,p1',p258,p259,p260,p261,p262,p263,pz⟩:=HP3.out.facts
     have p1:w3.cell? ⟨w.heap.size,1,none⟩=some l:=p1'
     clear p1'
     go_wp2_with (first|(at_builtin;refine wpList_append_own_at _ rfl _ _ 123 rfl (w.heap.size+1) 74 it (.pointer none) 1 8 Tryz.underlying123 HI.out.1 HI.out.2.1 HI.out.2.2.1 HI.out.2.2.2 rfl (by decide) _ _ _ rfl (HD3.out.own.alloc _) ⟨w3.heap.size,0,none⟩ 1 1 [.pointer (some ⟨q,0,none⟩)] rfl rfl ?c1 ?c2 ?c3 ?c4 ?c5 ?_)|fail)
     case c1=>exact cell_one_new _ _ _
     case c2=>intro u hu;simp at hu;subst hu;rfl
     case c3=>unfold maxLen;omega
     case c4=>omega
     case c5=>simp;omega
     intro v' w5 hown' hgrow hnil hloc
     have HP5:Hid (PtAt w5 w.heap.size (psOf rLab l)):=HP3.out.same (own_le hgrow HD.out.own _ (Nat.le_refl _) hp3)
     have HF5:Hid (RdAt w5 r s ⟨i',e1,a1,d,t'⟩):=(own_le hgrow HD.out.own r (by omega) (by omega)).trans HF3.out
     have HU5:Hid (Upd [r] w w5):=(HU3.out.alloc _).shrink (Upd.of_grown hgrow) (fun g hg=>by
      right;have e:l.ownBlock=some g:=by simpa using hg
      have:=(ownBlock_lt HD.out.own e).2;omega)
     obtain⟨g5,cap5,hv5⟩:=own_form hown'
     rw [hv5]
     clear hown' hgrow hnil hloc hv5 p0 p1 p258 p259 p260 p261 p262 p263 pz
     obtain⟨p0,p1,p258,p259,p260,p261,p262,p263,pz⟩:=HP5.out.facts
     go_wp2_with fail
     go_roundg 0
     case measure=>omega
     case rel=>exact⟨HU5.out.shrink ((Upd.refl [w.heap.size] _).setCell (by simp) _) (fun g hg=>by right;simp at hg;omega),Or.inr ⟨rfl,e1,a1,i',t',_,HE1.out,HR.out,HF5.out.other hrp _ _,HP5.out.set1 _⟩⟩
    case ok f=>
     obtain⟨t,z⟩:=f
     rintro ⟨q,rfl,hq2,hf2⟩
     obtain⟨hz1,hz2,hz3,hz4,hmin,hmax⟩:=Sp.atom_good (Sp.choice_good s k) hr2 hy0 hy9
     have ht:t=⟨t.lab,t.kids⟩:=by cases t;rfl
     rw [ht,PartsAt_cons] at hq2
     clear ht
     obtain⟨hqS,⟨l2,qs2,hpq,hown2,hl2,hkids2⟩,_⟩:=hq2
     have HX:Hid (PtAt w2 q (psOf t.lab l2)∧w2.ownsRow (q+1) 74 1 l2 qs2.length (qs2.map ptr)∧(∀ g,l2.ownBlock=some g→wr.heap.size≤g)∧PartsAt w2 (fun k=>wr.heap.size≤k∧q < k∧l2.ownBlock≠some k) qs2 t.kids):=⟨hpq,hown2,hl2,hkids2⟩
     have HF2:Hid (RdAt w2 r s ⟨z.i,0,a,d,z.t⟩):=hf2
     have HR2:Hid (Sp.atom (Sp.choice s k) s d y=.ok (t,z)):=hr2
     have HM:Hid (t.lab.min=-1∧t.lab.max=0):=⟨hmin,hmax⟩
     have hql:qs.length≤200:=by have:=PartsAt.length _ _ HD.out.parts;omega
     have hrq:r≠q:=by omega
     clear hf2 hr2 hmin hmax hpq hown2 hl2 hkids2
     unfold ptr
     go_wp2_with fail
     refine (count_any r q s ⟨z.i,0,a,d,z.t⟩ (psOf t.lab l2) _ (by exact HF2.out) (by exact HX.out.1) hrq hs rfl HM.out.1 HM.out.2).mono ?_
     rintro e w3 ⟨rfl,hu3,hq3⟩
     have HP3:Hid (PtAt w3 w.heap.size (psOf rLab l)):=HP2.out.upd hu3 (by simp;omega)
     have HU3:Hid (Upd [r] w w3):=HU2.out.shrink hu3 (fun g hg=>by simp at hg;rcases hg with rfl|rfl;exact Or.inl rfl;right;omega)
     have HW3:Hid (Upd [r,q] w2 w3):=hu3
     have HB3:Hid (∀ k,w.heap.size < k→k < wr.heap.size→w3.heap[k]?=wr.heap[k]?):=fun k hk1 hk2=>(hu3.block k (Nat.lt_of_lt_of_le hk2 HW2.out.size) (by simp;omega)).trans (HW2.out.block k hk2 (by simp;omega))
     have HD3:Hid (Kids w3 w.heap.size l qs ts):=HD.out.same HB3.out
     have hp3:w.heap.size < w3.heap.size:=HP3.out.lt
     have hs3:wr.heap.size≤w3.heap.size:=Nat.le_trans HW2.out.size hu3.size
     clear hu3 HP2 HU2
     obtain⟨p0,p1',p258,p259,p260,p261,p262,p263,pz⟩:=HP3.out.facts
     have p1:w3.cell? ⟨w.heap.size,1,none⟩=some l:=p1'
     clear p1'
     revert hq3
     cases hr3:Sp.count s z.i
     case error f=>
      obtain⟨e1,a1⟩:=f
      rintro ⟨he1,i',mn,mx,hf3,hpq3⟩
      have HE1:Hid (e1≠0):=he1
      have HR:Hid (Sp.parts (Sp.choice s k) s d (s.size+1) [] ⟨i0,t0⟩=.error (e1,a1)):=by show _=_;rw [HQ.out];unfold Sp.parts Sp.part;rw [HO.out,HR2.out];simp [hr3]
      have HF3:Hid (RdAt w3 r s ⟨i',e1,a1,d,z.t⟩):=hf3
      clear hf3 hr3 he1 hpq3
      go_wp2_with (first|(at_builtin;refine wpList_append_own_at _ rfl _ _ 123 rfl (w.heap.size+1) 74 it (.pointer none) 1 8 Tryz.underlying123 HI.out.1 HI.out.2.1 HI.out.2.2.1 HI.out.2.2.2 rfl (by decide) _ _ _ rfl (HD3.out.own.alloc _) ⟨w3.heap.size,0,none⟩ 1 1 [.pointer (some ⟨q,0,none⟩)] rfl rfl ?c1 ?c2 ?c3 ?c4 ?c5 ?_)|fail)
      case c1=>exact cell_one_new _ _ _
      case c2=>intro u hu;simp at hu;subst hu;rfl
      case c3=>unfold maxLen;omega
      case c4=>omega
      case c5=>simp;omega
      intro v' w5 hown' hgrow hnil hloc
      have HP5:Hid (PtAt w5 w.heap.size (psOf rLab l)):=HP3.out.same (own_le hgrow HD.out.own _ (Nat.le_refl _) hp3)
      have HF5:Hid (RdAt w5 r s ⟨i',e1,a1,d,z.t⟩):=(own_le hgrow HD.out.own r (by omega) (by omega)).trans HF3.out
      have HU5:Hid (Upd [r] w w5):=(HU3.out.alloc _).shrink (Upd.of_grown hgrow) (fun g hg=>by
       right;have e:l.ownBlock=some g:=by simpa using hg
       have:=(ownBlock_lt HD.out.own e).2;omega)
      obtain⟨g5,cap5,hv5⟩:=own_form hown'
      rw [hv5]
      clear hown' hgrow hnil hloc hv5 p0 p1 p258 p259 p260 p261 p262 p263 pz
      obtain⟨p0,p1,p258,p259,p260,p261,p262,p263,pz⟩:=HP5.out.facts
      go_wp2_with fail
      go_roundg 0
      case measure=>omega
      case rel=>exact⟨HU5.out.shrink ((Upd.refl [w.heap.size] _).setCell (by simp) _) (fun g hg=>by right;simp at hg;omega),Or.inr ⟨rfl,e1,a1,i',z.t,_,HE1.out,HR.out,HF5.out.other hrp _ _,HP5.out.set1 _⟩⟩
     case ok f=>
      obtain⟨m,n,j⟩:=f
      rintro ⟨hf3,hpq3⟩
      obtain⟨hj1,hj2⟩:=Sp.count_in hr3 hz2
      have HR:Hid (Sp.parts (Sp.choice s k) s d (s.size+1) [] ⟨i0,t0⟩=Sp.parts (Sp.choice s k) s d fuel (ts++[⟨{ t.lab with min:=m,max:=n },t.kids⟩]) ⟨j,z.t⟩):=by show _=_;rw [HQ.out,Sp.parts];rw [HO.out];simp only [Sp.part,HR2.out,hr3];rfl
      have HF3:Hid (RdAt w3 r s ⟨j,0,a,d,z.t⟩):=hf3
      have HT3:Hid (PartsAt w3 (fun k=>wr.heap.size≤k) [q] [⟨{ t.lab with min:=m,max:=n },t.kids⟩]):=part_count (r:=r) hpq3 hqS HX.out.2.1 HX.out.2.2.1 HX.out.2.2.2 HW3.out (by omega)
      clear hf3 hr3 hpq3
      go_wp2_with (first|(at_builtin;refine wpList_append_own_at _ rfl _ _ 123 rfl (w.heap.size+1) 74 it (.pointer none) 1 8 Tryz.underlying123 HI.out.1 HI.out.2.1 HI.out.2.2.1 HI.out.2.2.2 rfl (by decide) _ _ _ rfl (HD3.out.own.alloc _) ⟨w3.heap.size,0,none⟩ 1 1 [.pointer (some ⟨q,0,none⟩)] rfl rfl ?c1 ?c2 ?c3 ?c4 ?c5 ?_)|fail)
      case c1=>exact cell_one_new _ _ _
      case c2=>intro u hu;simp at hu;subst hu;rfl
      case c3=>unfold maxLen;omega
      case c4=>omega
      case c5=>simp;omega
      intro v' w5 hown' hgrow hnil hloc
      have HP5:Hid (PtAt w5 w.heap.size (psOf rLab l)):=HP3.out.same (own_le hgrow HD.out.own _ (Nat.le_refl _) hp3)
      have HF5:Hid (RdAt w5 r s ⟨j,0,a,d,z.t⟩):=(own_le hgrow HD.out.own r (by omega) (by omega)).trans HF3.out
      have HU5:Hid (Upd [r] w w5):=(HU3.out.alloc _).shrink (Upd.of_grown hgrow) (fun g hg=>by
       right;have e:l.ownBlock=some g:=by simpa using hg
       have:=(ownBlock_lt HD.out.own e).2;omega)
      have HK5:Hid (Kids (w5.setCell ⟨w.heap.size,1,none⟩ v') w.heap.size v' (qs++[q]) (ts++[⟨{ t.lab with min:=m,max:=n },t.kids⟩])):=HD.out.step HT3.out hwr HB3.out hs3 hown' hgrow hloc
      obtain⟨g5,cap5,hv5⟩:=own_form hown'
      rw [hv5] at HK5 ⊢
      clear hown' hgrow hnil hloc hv5 p0 p1 p258 p259 p260 p261 p262 p263 pz
      obtain⟨p0,p1,p258,p259,p260,p261,p262,p263,pz⟩:=HP5.out.facts
      go_wp2_with fail
      go_roundg fuel
      case measure=>omega
      case rel=>exact⟨HU5.out.shrink ((Upd.refl [w.heap.size] _).setCell (by simp) _) (fun g hg=>by right;simp at hg;omega),Or.inl ⟨⟨j,z.t⟩,_,_,_,HF5.out.other hrp _ _,HP5.out.set1 _,HK5.out,HR.out,by simp;omega,hj2,by simp;omega,hz3,hz4⟩⟩
  ·obtain⟨c0,c1,c2,c3,c4,c5,fz⟩:=hf.facts
   have HEb:(e1 == 0)=false:=by simpa using he1
   have A:Aside (e1≠0∧Sp.row (Sp.choice s k) s d ⟨i0,t0⟩=.error (e1,a1)∧RdAt wr r s ⟨i',e1,a1,d,t'⟩∧PtAt wr w.heap.size ps∧Upd [r] w wr):=⟨he1,by unfold Sp.row;rw [heq],hf,hp,hu⟩
   clear he1 heq hf hp hu
   go_wp2_with fail
   go_ret
   obtain⟨he1,heq,hf,hp,hu⟩:=A.out
   exact row_no heq he1 hu hf hp
structure ChoiceInv (r:Nat) (s:ByteArray) (i0:Nat) (a:Int) (d:Nat) (t0:Int) (sub:Sp.At→Sp.Res (Tr×Sp.At)) (w:World) (n:Nat) (wr:World):Prop where
 upd:Upd [r] w wr
 st:∃ y ts qs l,RdAt wr r s ⟨y.i,0,a,d,y.t⟩∧PtAt wr w.heap.size (psOf cLab l)∧Kids wr w.heap.size l qs ts∧Sp.rows sub s d (s.size+1) [] ⟨i0,t0⟩=Sp.rows sub s d n ts y∧s.size+1≤n+y.i∧y.i≤s.size∧ts.length≤y.i∧0≤y.t∧y.t≤9
set_option maxHeartbeats 1000000 in
theorem choice_step (k:Nat) (hk8:k≤8) (hsub:1≤k→ChoiceC k):ChoiceC (k+1):=by
 intro r s x w h hs he hi hd ht0 ht9
 obtain⟨i0,e0,a,dd,t0⟩:=x
 obtain rfl:e0=0:=he
 obtain⟨d,hdk⟩:∃ d:Nat,d=8 - k:=⟨_,rfl⟩
 obtain rfl:dd=(d:Int):=by simp at hd;omega
 have hi0:i0≤s.size:=hi
 have ht0':0≤t0:=ht0
 have ht9':t0≤9:=ht9
 have hd9:d≤8:=by omega
 have hsub':d < 8→ChoiceC k:=fun q=>hsub (by omega)
 have HK:Hid ((d:Int)=8 - (k:Int)):=by show _=_;omega
 have HDK:Hid (d=8 - k):=hdk
 clear hd hi ht0 ht9 hdk hsub
 have hr:=h.lt
 have hrp:r≠w.heap.size:=by omega
 obtain⟨it,hi1,hi2,hi3,hi4⟩:=infoPart
 have HI:Hid (Tryz.prog.info? 74=some it∧it.zero=some (.pointer none)∧it.size=1∧it.bytes=8):=⟨hi1,hi2,hi3,hi4⟩
 have hh:Hid (RdAt w r s ⟨i0,0,a,d,t0⟩):=h
 have hpn:Hid (PtAt (w.alloc (.cells ((Tryz.zeroCells126.setIfInBounds 0 (.int .u8 124)).setIfInBounds 262 (.int .i64 (-1))) 126)) w.heap.size (psOf cLab (.slice none 0 0))):=PtAt.new ((PtC.zero.set0 124).set262 (-1))
 clear h hi1 hi2 hi3 hi4
 go_enter Tryz.func43,Tryz.ntmps43
 go_wp2_with fail
 go_loopg [] (s.size+1) (fun gn wr=>ChoiceInv r s i0 a d t0 (Sp.choice s k) w gn wr)
 case atStart=>exact⟨(Upd.refl _ _).alloc _,⟨i0,t0⟩,[],[],_,hh.out.alloc _,hpn.out,Kids.empty _ _,rfl,by simp,hi0,by simp,ht0',ht9'⟩
 case round=>
  clear hpn hh
  obtain⟨hu,y,ts,qs,l,hf,hp,hkid,heq,hgn,hys,hlen,hy0,hy9⟩:=hrel
  obtain⟨fuel,rfl⟩:∃ n,gk=n+1:=⟨gk - 1,by omega⟩
  obtain⟨c0,c1,c2,c3,c4,c5,fz⟩:=hf.facts
  have HF:Hid (RdAt wr r s ⟨y.i,0,a,d,y.t⟩):=hf
  have HP:Hid (PtAt wr w.heap.size (psOf cLab l)):=hp
  have HU:Hid (Upd [r] w wr):=hu
  have HD:Hid (Kids wr w.heap.size l qs ts):=hkid
  have HQ:Hid (Sp.rows (Sp.choice s k) s d (s.size+1) [] ⟨i0,t0⟩=Sp.rows (Sp.choice s k) s d (fuel+1) ts y):=heq
  have HC:Hid (Sp.choice s (k+1) ⟨i0,t0⟩=match Sp.rows (Sp.choice s k) s d (fuel+1) ts y with | .error f=>.error f | .ok (l,z)=>.ok (⟨cLab,l⟩,z)):=by show _=_;rw [Sp.choice,← HDK.out,HQ.out];rfl
  have hwr:w.heap.size < wr.heap.size:=HP.out.lt
  have hql:qs.length≤200:=by have:=PartsAt.length _ _ HD.out.parts;omega
  clear hf hp hu heq hkid
  go_wp2_with fail
  refine (row_any r s y.i a d y.t _ (by exact HF.out) hs hys hd9 hy0 hy9 k hsub' HK.out).mono ?_
  rintro e w2 ⟨hu2,hq2⟩
  have HP2:Hid (PtAt w2 w.heap.size (psOf cLab l)):=HP.out.upd hu2 (by simpa using hrp.symm)
  have HU2:Hid (Upd [r] w w2):=HU.out.trans hu2
  have HD2:Hid (Kids w2 w.heap.size l qs ts):=HD.out.upd hu2 (by omega)
  have HB2:Hid (∀ k,w.heap.size < k→k < wr.heap.size→w2.heap[k]?=wr.heap[k]?):=fun k hk1 hk2=>hu2.block k hk2 (by simp;omega)
  have hp2:w.heap.size < w2.heap.size:=HP2.out.lt
  have hs2:wr.heap.size≤w2.heap.size:=hu2.size
  obtain⟨p0,p1',p258,p259,p260,p261,p262,p263,pz⟩:=HP2.out.facts
  have p1:w2.cell? ⟨w.heap.size,1,none⟩=some l:=p1'
  clear hu2 p1' c0 c1 c2 c3 c4 c5 fz
  revert hq2
  cases hr2:Sp.row (Sp.choice s k) s d y
  case error f=>
   obtain⟨e1,a1⟩:=f
   rintro ⟨he1,q,i',t',ps2,rfl,hq2,hpq,hf2⟩
   have HE1:Hid (e1≠0):=he1
   have HR:Hid (Sp.choice s (k+1) ⟨i0,t0⟩=.error (e1,a1)):=by show _=_;rw [HC.out,Sp.rows,hr2]
   have HF2:Hid (RdAt w2 r s ⟨i',e1,a1,d,t'⟩):=hf2
   clear hf2 hr2 he1 hpq
   unfold ptr
   go_wp2_with (first|(at_builtin;refine wpList_append_own_at _ rfl _ _ 123 rfl (w.heap.size+1) 74 it (.pointer none) 1 8 Tryz.underlying123 HI.out.1 HI.out.2.1 HI.out.2.2.1 HI.out.2.2.2 rfl (by decide) _ _ _ rfl (HD2.out.own.alloc _) ⟨w2.heap.size,0,none⟩ 1 1 [.pointer (some ⟨q,0,none⟩)] rfl rfl ?c1 ?c2 ?c3 ?c4 ?c5 ?_)|fail)
   case c1=>exact cell_one_new _ _ _
   case c2=>intro u hu;simp at hu;subst hu;rfl
   case c3=>unfold maxLen;omega
   case c4=>omega
   case c5=>simp;omega
   intro v' w5 hown' hgrow hnil hloc
   have HP5:Hid (PtAt w5 w.heap.size (psOf cLab l)):=HP2.out.same (own_le hgrow HD.out.own _ (Nat.le_refl _) hp2)
   have HF5:Hid (RdAt w5 r s ⟨i',e1,a1,d,t'⟩):=(own_le hgrow HD.out.own r (by omega) (by omega)).trans HF2.out
   have HU5:Hid (Upd [r] w w5):=(HU2.out.alloc _).shrink (Upd.of_grown hgrow) (fun g hg=>by
    right;have e:l.ownBlock=some g:=by simpa using hg
    have:=(ownBlock_lt HD.out.own e).2;omega)
   obtain⟨g5,cap5,hv5⟩:=own_form hown'
   rw [hv5]
   clear hown' hgrow hnil hloc hv5 p0 p1 p258 p259 p260 p261 p262 p263 pz
   obtain⟨p0,p1,p258,p259,p260,p261,p262,p263,pz⟩:=HP5.out.facts
   go_wp2_with fail
   refine (is_any r s ⟨i',e1,a1,d,t'⟩ _ _ (by exact HF5.out.other hrp _ _) hs).mono ?_
   rw [isB_err (by exact HE1.out)]
   rintro e w7 ⟨rfl,hu7,hf7⟩
   have HP7:Hid (PtAt w7 w.heap.size _):=(HP5.out.set1 _).upd hu7 (by simpa using hrp.symm)
   have HU7:Hid (Upd [r] w w7):=(HU5.out.shrink ((Upd.refl [w.heap.size] _).setCell (p:=⟨w.heap.size,1,none⟩) (by simp) _) (fun g hg=>by right;simp at hg;omega)).trans hu7
   have HF7:Hid (RdAt w7 r s ⟨i',e1,a1,d,t'⟩):=hf7
   clear hu7 hf7
   go_wp2_with fail
   go_ret
   exact row_no HR.out HE1.out HU7.out HF7.out HP7.out
  case ok f=>
   obtain⟨tr,z⟩:=f
   rintro ⟨q,rfl,hq2,hf2⟩
   obtain⟨hz1,hz2,hz3,hz4⟩:=Sp.row_good (Sp.choice_good s k) y tr z hr2 hys hy0 hy9
   have HT2:Hid (PartsAt w2 (fun k=>wr.heap.size≤k) [q] [tr]):=hq2
   have HR2:Hid (Sp.row (Sp.choice s k) s d y=.ok (tr,z)):=hr2
   have HF2:Hid (RdAt w2 r s ⟨z.i,0,a,d,z.t⟩):=hf2
   clear hf2 hr2 hq2
   unfold ptr
   go_wp2_with (first|(at_builtin;refine wpList_append_own_at _ rfl _ _ 123 rfl (w.heap.size+1) 74 it (.pointer none) 1 8 Tryz.underlying123 HI.out.1 HI.out.2.1 HI.out.2.2.1 HI.out.2.2.2 rfl (by decide) _ _ _ rfl (HD2.out.own.alloc _) ⟨w2.heap.size,0,none⟩ 1 1 [.pointer (some ⟨q,0,none⟩)] rfl rfl ?c1 ?c2 ?c3 ?c4 ?c5 ?_)|fail)
   case c1=>exact cell_one_new _ _ _
   case c2=>intro u hu;simp at hu;subst hu;rfl
   case c3=>unfold maxLen;omega
   case c4=>omega
   case c5=>simp;omega
   intro v' w5 hown' hgrow hnil hloc
   have HP5:Hid (PtAt w5 w.heap.size (psOf cLab l)):=HP2.out.same (own_le hgrow HD.out.own _ (Nat.le_refl _) hp2)
   have HF5:Hid (RdAt w5 r s ⟨z.i,0,a,d,z.t⟩):=(own_le hgrow HD.out.own r (by omega) (by omega)).trans HF2.out
   have HU5:Hid (Upd [r] w w5):=(HU2.out.alloc _).shrink (Upd.of_grown hgrow) (fun g hg=>by
    right;have e:l.ownBlock=some g:=by simpa using hg
    have:=(ownBlock_lt HD.out.own e).2;omega)
   have HK5:Hid (Kids (w5.setCell ⟨w.heap.size,1,none⟩ v') w.heap.size v' (qs++[q]) (ts++[tr])):=HD.out.step HT2.out hwr HB2.out hs2 hown' hgrow hloc
   obtain⟨g5,cap5,hv5⟩:=own_form hown'
   rw [hv5] at HK5 ⊢
   clear hown' hgrow hnil hloc hv5 p0 p1 p258 p259 p260 p261 p262 p263 pz
   obtain⟨p0,p1,p258,p259,p260,p261,p262,p263,pz⟩:=HP5.out.facts
   go_wp2_with fail
   refine (is_any r s ⟨z.i,0,a,d,z.t⟩ _ _ (by exact HF5.out.other hrp _ _) hs).mono ?_
   rw [isB_ok rfl]
   rintro e w7 ⟨rfl,hu7,hf7⟩
   have HP7:Hid (PtAt w7 w.heap.size (psOf cLab (.slice (some ⟨g5,0,none⟩) (qs.length+1) cap5))):=(HP5.out.set1 _).upd hu7 (by simpa using hrp.symm)
   have HK7:Hid (Kids w7 w.heap.size (.slice (some ⟨g5,0,none⟩) (qs.length+1) cap5) (qs++[q]) (ts++[tr])):=HK5.out.upd hu7 (by omega)
   have HU7:Hid (Upd [r] w w7):=(HU5.out.shrink ((Upd.refl [w.heap.size] _).setCell (p:=⟨w.heap.size,1,none⟩) (by simp) _) (fun g hg=>by right;simp at hg;omega)).trans hu7
   clear hu7 p0 p1 p258 p259 p260 p261 p262 p263 pz
   cases hb:Sp.isAt s z.i 124
   case false=>
    have HR:Hid (Sp.choice s (k+1) ⟨i0,t0⟩=.ok (⟨cLab,ts++[tr]⟩,z)):=by show _=_;rw [HC.out,Sp.rows,HR2.out];simp [hb]
    have HF7:Hid (RdAt w7 r s ⟨z.i,0,a,d,z.t⟩):=by rw [hb] at hf7;exact hf7
    clear hb hf7
    go_wp2_with fail
    go_ret
    exact row_fin (d:=d) (sub:=Sp.choice s k) (tr:=tr) HR.out HU7.out HF7.out HP7.out HK7.out
   case true=>
    have HR:Hid (Sp.rows (Sp.choice s k) s d (s.size+1) [] ⟨i0,t0⟩=Sp.rows (Sp.choice s k) s d fuel (ts++[tr]) ⟨z.i+1,z.t⟩):=by show _=_;rw [HQ.out,Sp.rows,HR2.out];simp [hb]
    have HF7:Hid (RdAt w7 r s ⟨z.i+1,0,a,d,z.t⟩):=by rw [hb] at hf7;exact hf7
    have hz5:=Sp.isAt_lt hb
    clear hb hf7
    go_wp2_with fail
    go_roundg fuel
    case measure=>omega
    case rel=>exact⟨HU7.out,⟨z.i+1,z.t⟩,_,_,_,HF7.out,HP7.out,HK7.out,HR.out,by simp;omega,hz5,by simp;omega,hz3,hz4⟩
theorem choice_all:∀ k,1≤k→k≤9→ChoiceC k
 | 0,h,_=>absurd h (by omega)
 | k+1,_,h=>choice_step k (by omega) (fun q=>choice_all k q (by omega))
end Go.Proofs.YtcpfpnjkfahjcaaGreat
