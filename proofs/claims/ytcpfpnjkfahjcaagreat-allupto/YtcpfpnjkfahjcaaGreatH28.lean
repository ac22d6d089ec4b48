import Derived.Test.YtcpfpnjkfahjcaaGreatH27
import Derived.Deep.LoopGhost
import Derived.Maps.AppendAt
set_option linter.unusedSimpArgs false
set_option linter.unusedVariables false
namespace Go.Proofs.YtcpfpnjkfahjcaaGreat
open Go.RowKit
def kindOf (k:Nat):Int:=if k=3 then 40 else if k=4 then 124 else if k=5 then 32 else 98
def psOf (a:Lab) (l:Value):PS:={ kind:=kindOf a.kind,l:=l,set:=a.set,not:=a.not,dot:=decide (a.kind=1),single:=decide (a.kind=0),told:=a.told,min:=a.min,max:=a.max }
def PartsAt (w:World):(Nat→Prop)→List Nat→List Tr→Prop
 | _,[],[]=>True
 | S,p::ps,⟨a,ks⟩::r=>S p∧(∃ l qs,PtAt w p (psOf a l)∧w.ownsRow (p+1) 74 1 l qs.length (qs.map ptr)∧(∀ g,l.ownBlock=some g→S g)∧PartsAt w (fun k=>S k∧p < k∧l.ownBlock≠some k) qs ks)∧PartsAt w S ps r
 | _,_,_=>False
theorem PtAt.same {w w':World} {p:Nat} {a:PS} (h:PtAt w p a) (hb:w'.heap[p]?=w.heap[p]?):PtAt w' p a:=by
 obtain⟨c,h,q⟩:=h;exact⟨c,hb.trans h,q⟩
theorem PartsAt_nil (w:World) (S:Nat→Prop):PartsAt w S [] []:=by unfold PartsAt;trivial
theorem PartsAt_cons (w:World) (S:Nat→Prop) (p:Nat) (ps:List Nat) (a:Lab) (ks r:List Tr):PartsAt w S (p::ps) (⟨a,ks⟩::r)=(S p∧(∃ l qs,PtAt w p (psOf a l)∧w.ownsRow (p+1) 74 1 l qs.length (qs.map ptr)∧(∀ g,l.ownBlock=some g→S g)∧PartsAt w (fun k=>S k∧p < k∧l.ownBlock≠some k) qs ks)∧PartsAt w S ps r):=by rw [PartsAt]
theorem PartsAt_no1 {w:World} {S:Nat→Prop} {t:Tr} {r:List Tr} (h:PartsAt w S [] (t::r)):False:=by obtain⟨a,ks⟩:=t;unfold PartsAt at h;exact h
theorem PartsAt_no2 {w:World} {S:Nat→Prop} {p:Nat} {ps:List Nat} (h:PartsAt w S (p::ps) []):False:=by unfold PartsAt at h;exact h
theorem PartsAt.same {w w':World}:∀ (S:Nat→Prop) (ps:List Nat) (ts:List Tr),PartsAt w S ps ts→(∀ k,S k→k < w.heap.size→w'.heap[k]?=w.heap[k]?)→PartsAt w' S ps ts
 | S,[],[],_,_=>PartsAt_nil _ _
 | S,p::ps,⟨a,ks⟩::r,h,hb=>by
  rw [PartsAt_cons] at h ⊢
  obtain⟨h1,⟨l,qs,h2,h3,h4,h5⟩,h6⟩:=h
  exact⟨h1,⟨l,qs,h2.same (hb p h1 h2.lt),ownsRow_same h3 (fun g hg hl=>hb g (h4 g hg) hl),h4,PartsAt.same _ qs ks h5 (fun k hk hl=>hb k hk.1 hl)⟩,PartsAt.same S ps r h6 hb⟩
 | _,[],_::_,h,_=>(PartsAt_no1 h).elim
 | _,_::_,[],h,_=>(PartsAt_no2 h).elim
theorem PartsAt.mono {w:World}:∀ (S S':Nat→Prop) (ps:List Nat) (ts:List Tr),PartsAt w S ps ts→(∀ k,S k→k < w.heap.size→S' k)→PartsAt w S' ps ts
 | S,S',[],[],_,_=>PartsAt_nil _ _
 | S,S',p::ps,⟨a,ks⟩::r,h,hb=>by
  rw [PartsAt_cons] at h ⊢
  obtain⟨h1,⟨l,qs,h2,h3,h4,h5⟩,h6⟩:=h
  exact⟨hb p h1 h2.lt,⟨l,qs,h2,h3,(fun g hg=>hb g (h4 g hg) (ownBlock_lt h3 hg).1),PartsAt.mono _ _ qs ks h5 (fun k hk hl=>⟨hb k hk.1 hl,hk.2⟩)⟩,PartsAt.mono S S' ps r h6 hb⟩
 | _,_,[],_::_,h,_=>(PartsAt_no1 h).elim
 | _,_,_::_,[],h,_=>(PartsAt_no2 h).elim
theorem PartsAt.append {w:World} {S:Nat→Prop}:∀ (ps:List Nat) (ts:List Tr) (qs:List Nat) (us:List Tr),PartsAt w S ps ts→PartsAt w S qs us→PartsAt w S (ps++qs) (ts++us)
 | [],[],_,_,_,h=>h
 | p::ps,⟨a,ks⟩::r,qs,us,h1,h=>by
  rw [PartsAt_cons] at h1
  show PartsAt w S (p::(ps++qs)) (⟨a,ks⟩::(r++us))
  rw [PartsAt_cons]
  exact⟨h1.1,h1.2.1,PartsAt.append ps r qs us h1.2.2 h⟩
 | [],_::_,_,_,h,_=>(PartsAt_no1 h).elim
 | _::_,[],_,_,h,_=>(PartsAt_no2 h).elim
theorem PartsAt.length {w:World} {S:Nat→Prop}:∀ (ps:List Nat) (ts:List Tr),PartsAt w S ps ts→ps.length=ts.length
 | [],[],_=>rfl
 | p::ps,⟨a,ks⟩::r,h=>by rw [PartsAt_cons] at h;simp [PartsAt.length ps r h.2.2]
 | [],_::_,h=>(PartsAt_no1 h).elim
 | _::_,[],h=>(PartsAt_no2 h).elim
def PartOut (r:Nat) (s:ByteArray) (x:RS) (w:World) (res:Sp.Res (Tr×Sp.At)) (k:Ending) (w':World):Prop:=
 Upd [r] w w'∧match res with
 | .ok (t,y)=>∃ p,k=.returned (ptr p)∧PartsAt w' (fun k=>w.heap.size≤k) [p] [t]∧RdAt w' r s { x with i:=y.i,t:=y.t }
 | .error (e,a)=>e≠0∧∃ p i' t' ps,k=.returned (ptr p)∧w.heap.size≤p∧PtAt w' p ps∧RdAt w' r s ⟨i',e,a,x.d,t'⟩
theorem RdAt.alloc {w:World} {r:Nat} {s:ByteArray} {x:RS} (h:RdAt w r s x) (o:Obj):RdAt (w.alloc o) r s x:=by
 have:=h.lt;unfold RdAt at *;rw [Below.heap_alloc _ _ _ this];exact h
theorem PtAt.alloc {w:World} {p:Nat} {a:PS} (h:PtAt w p a) (o:Obj):PtAt (w.alloc o) p a:=h.same (Below.heap_alloc _ _ _ h.lt)
def lps (b:Bool) (set:Nat→Bool):PS:={ kind:=98,l:=.slice none 0 0,set:=set,not:=b,dot:=false,single:=false,told:=false,min:=-1,max:=0 }
structure ListInv (r p:Nat) (s:ByteArray) (x:RS) (b:Bool) (j0:Nat) (w0:World) (k:Nat) (first:Value) (wr:World):Prop where
 upd:Upd [r,p] w0 wr
 st:(∃ f i set,first=.bool f∧RdAt wr r s { x with i:=i }∧PtAt wr p (lps b set)∧Sp.items s (s.size+1) (fun _=>false) j0=(if f then Sp.items s k set i else after s k set i)∧s.size+1≤k+i∧i≤s.size)∨
  (k=0∧first=.bool false∧∃ e1 a1 i' ps,e1≠0∧Sp.items s (s.size+1) (fun _=>false) j0=.error (e1,a1)∧RdAt wr r s { x with i:=i',e:=e1,a:=a1 }∧PtAt wr p ps)
theorem item_1 {s:ByteArray} {i:Nat} {f:Sp.Fault} (h:Sp.byteBut true s i=.error f):Sp.item s i=.error f:=by unfold Sp.item;rw [h]
theorem item_2 {s:ByteArray} {i j:Nat} {a:Int} (h:Sp.byteBut true s i=.ok (a,j)) (h1:Sp.isAt s j 45=false):Sp.item s i=.ok (a,a,j):=by unfold Sp.item;rw [h];simp [h1]
theorem item_3 {s:ByteArray} {i j:Nat} {a:Int} {f:Sp.Fault} (h:Sp.byteBut true s i=.ok (a,j)) (h1:Sp.isAt s j 45=true) (h2:Sp.byteBut true s (j+1)=.error f):Sp.item s i=.error f:=by unfold Sp.item;rw [h];simp [h1,h2]
theorem item_4 {s:ByteArray} {i j k:Nat} {a b:Int} (h:Sp.byteBut true s i=.ok (a,j)) (h1:Sp.isAt s j 45=true) (h2:Sp.byteBut true s (j+1)=.ok (b,k)) (h3:b < a):Sp.item s i=.error (3,(j+1:Nat)):=by unfold Sp.item;rw [h];simp [h1,h2,h3]
theorem item_5 {s:ByteArray} {i j k:Nat} {a b:Int} (h:Sp.byteBut true s i=.ok (a,j)) (h1:Sp.isAt s j 45=true) (h2:Sp.byteBut true s (j+1)=.ok (b,k)) (h3:¬ b < a):Sp.item s i=.ok (a,b,k):=by unfold Sp.item;rw [h];simp [h1,h2,h3]
theorem add_step (set:Nat→Bool) (a cc:Int) (q:Nat) (h:a≤cc) (hc:0≤cc):Sp.add set a (cc+1 - 1) q=if q=cc.toNat then true else Sp.add set a (cc - 1) q:=by
 unfold Sp.add
 by_cases e:q=cc.toNat
 ·rw [if_pos e];simp;right;omega
 ·rw [if_neg e];congr 1;by_cases h1:a≤(q:Int)<;>simp [h1];omega
structure InnerInv (r p:Nat) (s:ByteArray) (x:RS) (b:Bool) (set:Nat→Bool) (a bb:Int) (w0:World) (k:Nat) (c:Value) (wi:World):Prop where
 upd:Upd [r,p] w0 wi
 rd:RdAt wi r s x
 st:∃ cc:Int,c=.int .i64 cc∧a≤cc∧cc≤bb+1∧k=(bb+1 - cc).toNat∧PtAt wi p (lps b (Sp.add set a (cc - 1)))
theorem list_j {s:ByteArray} {x:RS} {b:Bool} {j0:Nat} (h:Sp.isAt s x.i 94=b∧(x.adv b).i=j0):(if Sp.isAt s x.i 94 then x.i+1 else x.i)=j0:=by
 obtain⟨rfl,rfl⟩:=h;unfold RS.adv;split<;>rfl
theorem list_fin {r:Nat} {s:ByteArray} {x:RS} {w w2:World} {b:Bool} {j0 i:Nat} {set:Nat→Bool} (h:RdAt w r s x) (hb:Sp.isAt s x.i 94=b∧(x.adv b).i=j0) (hq:Sp.items s (s.size+1) (fun _=>false) j0=.ok (set,i))
  (hu:Upd [r,w.heap.size] w w2) (hf:RdAt w2 r s { x with i:=i }) (hp:PtAt w2 w.heap.size (lps b set)):PartOut r s x w (listR s x) (.returned (.pointer (some ⟨w.heap.size,0,none⟩))) w2:=by
 have:listR s x=.ok (⟨{ Sp.blank with kind:=2,set:=set,not:=b },[]⟩,⟨i,x.t⟩):=by
  unfold listR Sp.list;simp only [];rw [list_j hb,hq,hb.1]
 rw [this]
 refine⟨(Upd.refl _ _).hide hu.swap (Nat.le_refl _),w.heap.size,rfl,?_,hf⟩
 rw [PartsAt_cons]
 exact⟨Nat.le_refl _,⟨.slice none 0 0,[],hp,⟨by simp,Or.inl ⟨rfl,rfl⟩⟩,(fun g hg=>by cases hg),PartsAt_nil _ _⟩,PartsAt_nil _ _⟩
theorem list_no {r:Nat} {s:ByteArray} {x:RS} {w w2:World} {b:Bool} {j0 i':Nat} {e1 a1:Int} {ps:PS} (h:RdAt w r s x) (hb:Sp.isAt s x.i 94=b∧(x.adv b).i=j0) (hq:Sp.items s (s.size+1) (fun _=>false) j0=.error (e1,a1)) (he:e1≠0)
  (hu:Upd [r,w.heap.size] w w2) (hf:RdAt w2 r s { x with i:=i',e:=e1,a:=a1 }) (hp:PtAt w2 w.heap.size ps):PartOut r s x w (listR s x) (.returned (.pointer (some ⟨w.heap.size,0,none⟩))) w2:=by
 have:listR s x=.error (e1,a1):=by unfold listR Sp.list;simp only [];rw [list_j hb,hq]
 rw [this]
 exact⟨(Upd.refl _ _).hide hu.swap (Nat.le_refl _),he,w.heap.size,i',x.t,ps,rfl,Nat.le_refl _,hp,hf⟩
set_option maxHeartbeats 1000000 in
theorem list_any (r:Nat) (s:ByteArray) (x:RS) (w:World) (h:RdAt w r s x) (hs:s.size≤200) (he:x.e=0) (hi:x.i≤s.size) :
  Calls Tryz.prog 110 #[.pointer (some ⟨r,0,none⟩)] w (PartOut r s x w (listR s x)):=by
 have hrp:r≠w.heap.size:=by have:=h.lt;omega
 obtain⟨c0,c1,c2,c3,c4,c5,fz⟩:=h.facts
 have hh:Hid (RdAt w r s x):=h
 have HE:Hid (x.e=0):=he
 clear h he
 go_enter Tryz.func110,Tryz.ntmps110
 go_wp2_with fail
 refine (is_any r s x _ _ (by exact hh.out.alloc _) hs).mono ?_
 rw [isB_ok (by exact HE.out)]
 have hp0:Hid (PtAt (w.alloc (.cells ((Tryz.zeroCells126.setIfInBounds 0 (.int .u8 98)).setIfInBounds 262 (.int .i64 (-1))) 126)) w.heap.size (lps false (fun _=>false))):=PtAt.new ((PtC.zero.set0 98).set262 (-1))
 rintro e w1 ⟨rfl,hu1,hf1⟩
 obtain⟨b,hb⟩:∃ b,Sp.isAt s x.i 94=b:=⟨_,rfl⟩
 obtain⟨j0,hj0⟩:∃ j,(x.adv b).i=j:=⟨_,rfl⟩
 have HJ:Hid (x.adv b={ x with i:=j0 }):=by show _=_;rw [← hj0];unfold RS.adv;split<;>rfl
 have HB:Hid (Sp.isAt s x.i 94=b∧(x.adv b).i=j0):=⟨hb,hj0⟩
 rw [hb,HJ.out] at hf1
 rw [hb]
 have hj:j0≤s.size:=by rw [← hj0];unfold RS.adv;cases b;exact hi;simp [Sp.isAt] at hb;simp;omega
 have hp1:Hid (PtAt w1 w.heap.size (lps false (fun _=>false))):=hp0.out.upd hu1 (by simpa using hrp.symm)
 have HU1:Hid (Upd [r,w.heap.size] w w1):=(((Upd.refl _ _).alloc _).trans hu1.one)
 have hf1':Hid (RdAt w1 r s { x with i:=j0 }):=hf1
 obtain⟨p0,p1,p258,p259,p260,p261,p262,p263,pz⟩:=hp1.out.facts
 clear hb hj0 hu1 hf1 hp0 c0 c1 c2 c3 c4 c5 fz
 go_wp2_with fail
 have HU2:Hid (Upd [r,w.heap.size] w (w1.setCell ⟨w.heap.size,258,none⟩ (.bool b))):=HU1.out.setCell (by simp) _
 have hf2:Hid (RdAt (w1.setCell ⟨w.heap.size,258,none⟩ (.bool b)) r s { x with i:=j0 }):=hf1'.out.other hrp _ _
 have hp2:Hid (PtAt (w1.setCell ⟨w.heap.size,258,none⟩ (.bool b)) w.heap.size (lps b (fun _=>false))):=hp1.out.set258 b
 clear HU1 hf1' hp1 p0 p1 p258 p259 p260 p261 p262 p263 pz
 go_loopg [4] (s.size+1) (fun k f wr=>ListInv r w.heap.size s x b j0 w k f wr)
 case atStart=>exact⟨HU2.out,Or.inl ⟨true,j0,_,rfl,hf2.out,hp2.out,rfl,by omega,hj⟩⟩
 case round=>
  clear HU2 hf2 hp2
  obtain⟨hu,hst⟩:=hrel
  rcases hst with ⟨f,i,set,rfl,hf,hp,heq,hk,hi'⟩|⟨rfl,rfl,e1,a1,i',ps,he1,heq,hf,hp⟩
  ·obtain⟨fuel,rfl⟩:∃ n,gk=n+1:=⟨gk - 1,by omega⟩
   obtain⟨c0,c1,c2,c3,c4,c5,fz⟩:=hf.facts
   have HEb:(x.e == 0)=true:=by simp [HE.out]
   have HF:Hid (RdAt wr r s { x with i:=i }):=hf
   have HP:Hid (PtAt wr w.heap.size (lps b set)):=hp
   have HU:Hid (Upd [r,w.heap.size] w wr):=hu
   have HQ:Hid (Sp.items s (s.size+1) (fun _=>false) j0=(if f then Sp.items s (fuel+1) set i else after s (fuel+1) set i)):=heq
   clear hf hp hu heq
   cases f
   case' false=>
    go_wp2_with fail
    refine (is_any r s { x with i:=i } _ _ (by exact HF.out) hs).mono ?_
    rw [isB_ok (by exact HE.out)]
    cases hb3:Sp.isAt s i 93
    case' true=>
     rintro e w2 ⟨rfl,hu2,hf2⟩
     have HQ':Hid (Sp.items s (s.size+1) (fun _=>false) j0=.ok (set,i+1)):=by show _=_;rw [HQ.out];unfold after;simp [hb3]
     have HP2:Hid (PtAt w2 w.heap.size (lps b set)):=HP.out.upd hu2 (by simpa using hrp.symm)
     have HU2:Hid (Upd [r,w.heap.size] w w2):=HU.out.trans hu2.one
     have HF2:Hid (RdAt w2 r s { x with i:=i+1 }):=hf2
     clear hu2 hf2 hb3
     go_wp2_with fail
     go_ret
     exact list_fin hh.out HB.out HQ'.out HU2.out HF2.out HP2.out
    rintro e w2 ⟨rfl,hu2,hf2⟩
    have HQ':Hid (Sp.items s (s.size+1) (fun _=>false) j0=Sp.items s (fuel+1) set i):=by show _=_;rw [HQ.out];unfold after;simp [hb3]
    have HP2:Hid (PtAt w2 w.heap.size (lps b set)):=HP.out.upd hu2 (by simpa using hrp.symm)
    have HU2:Hid (Upd [r,w.heap.size] w w2):=HU.out.trans hu2.one
    have HF2:Hid (RdAt w2 r s { x with i:=i }):=hf2
    clear hu2 hf2 hb3 HQ HP HU HF c0 c1 c2 c3 c4 c5 fz
    go_wp2_with fail
   case' true=>
    have HQ':Hid (Sp.items s (s.size+1) (fun _=>false) j0=Sp.items s (fuel+1) set i):=HQ.out
    have HP2:Hid (PtAt wr w.heap.size (lps b set)):=HP.out
    have HU2:Hid (Upd [r,w.heap.size] w wr):=HU.out
    have HF2:Hid (RdAt wr r s { x with i:=i }):=HF.out
    clear HQ HP HU HF
    go_wp2_with fail
    clear c0 c1 c2 c3 c4 c5 fz
   all_goals
    refine (end_any r s { x with i:=i } _ (by exact HF2.out) hs (by exact HE.out)).mono ?_
    rintro e w3 ⟨hu3,hq3⟩
    have HP3:Hid (PtAt w3 w.heap.size (lps b set)):=HP2.out.upd hu3 (by simpa using hrp.symm)
    have HU3:Hid (Upd [r,w.heap.size] w w3):=HU2.out.trans hu3.one
    clear hu3 HP2 HU2 HF2
    revert hq3
    cases hr:Sp.byteBut true s i
    case error f1=>
     obtain⟨e1,a1⟩:=f1
     rintro ⟨v,i',h0,h1,rfl,hf3⟩
     have HE1:Hid (e1≠0):=by show _≠_;rw [byteBut_err hr];decide
     have HR:Hid (Sp.items s (s.size+1) (fun _=>false) j0=.error (e1,a1)):=by show _=_;rw [HQ'.out,items_succ,item_1 hr]
     have HF3:Hid (RdAt w3 r s ⟨i',e1,a1,x.d,x.t⟩):=hf3
     clear hf3 hr
     go_wp2_with fail
     refine (is_any r s ⟨i',e1,a1,x.d,x.t⟩ _ _ (by exact HF3.out) hs).mono ?_
     rw [isB_err (by exact HE1.out)]
     rintro e w4 ⟨rfl,hu4,hf4⟩
     have HP4:Hid (PtAt w4 w.heap.size (lps b set)):=HP3.out.upd hu4 (by simpa using hrp.symm)
     have HU4:Hid (Upd [r,w.heap.size] w w4):=HU3.out.trans hu4.one
     have HF4:Hid (RdAt w4 r s ⟨i',e1,a1,x.d,x.t⟩):=hf4
     obtain⟨c0,c1,c2,c3,c4,c5,fz⟩:=HF4.out.facts
     have HEb1:(e1 == 0)=false:=by simpa using HE1.out
     clear hu4 hf4 HP3 HU3 HF3
     go_wp2_with fail
     refine wp_loop_rounds 1 ?_
     rw [rounds_succ]
     go_wp2_with fail
     go_roundg 0
     case measure=>omega
     case rel=>exact⟨HU4.out,Or.inr ⟨rfl,rfl,e1,a1,i',_,HE1.out,HR.out,HF4.out,HP4.out⟩⟩
    case ok f1=>
     obtain⟨a,j⟩:=f1
     rintro ⟨rfl,hf3⟩
     obtain⟨ha0,ha1,hij,hjs⟩:=byteBut_ok hr
     have HR1:Hid (Sp.byteBut true s i=.ok (a,j)):=hr
     have HF3:Hid (RdAt w3 r s { x with i:=j }):=hf3
     clear hf3 hr
     go_wp2_with fail
     refine (is_any r s { x with i:=j } _ _ (by exact HF3.out) hs).mono ?_
     rw [isB_ok (by exact HE.out)]
     cases hb3:Sp.isAt s j 45
     case false=>
      rintro e w4 ⟨rfl,hu4,hf4⟩
      have HI:Hid (Sp.items s (s.size+1) (fun _=>false) j0=after s fuel (Sp.add set a a) j):=by show _=_;rw [HQ'.out,items_succ,item_2 HR1.out hb3]
      have HP4:Hid (PtAt w4 w.heap.size (lps b set)):=HP3.out.upd hu4 (by simpa using hrp.symm)
      have HU4:Hid (Upd [r,w.heap.size] w w4):=HU3.out.trans hu4.one
      have HF4:Hid (RdAt w4 r s { x with i:=j }):=hf4
      clear hu4 hf4 HP3 HU3 HF3 hb3
      obtain⟨c0,c1,c2,c3,c4,c5,fz⟩:=HF4.out.facts
      go_wp2_with fail
      go_loopg [10] (a+1 - a).toNat (fun gn c wi=>InnerInv r w.heap.size s { x with i:=j } b set a a w gn c wi)
      case atStart=>exact⟨HU4.out,HF4.out,a,rfl,by omega,by omega,rfl,HP4.out.congr _ (fun q _=>by unfold Sp.add lps;simp;intro _;omega)⟩
      case round=>
       clear HF4 HP4 HU4 c0 c1 c2 c3 c4 c5 fz
       obtain⟨hu,hf,cc,rfl,hc0,hc1,hgk,hp⟩:=hrel
       obtain⟨c0,c1,c2,c3,c4,c5,fz⟩:=hf.facts
       have HGK:Hid (gk=(a+1 - cc).toNat):=hgk
       have A:Aside (Upd [r,w.heap.size] w wr∧RdAt wr r s { x with i:=j }∧PtAt wr w.heap.size (lps b (Sp.add set a (cc - 1)))):=⟨hu,hf,hp⟩
       have hpz:=hp.facts.fz
       clear hgk
       by_cases hlt:cc≤a
       ·have hcell:=hp.setFact cc.toNat (by omega)
        clear hu hf hp
        go_wp2_with fail
        go_roundg (a+1 - (cc+1)).toNat
        case measure=>have:=HGK.out;omega
        case rel=>
         obtain⟨hu,hf,hp⟩:=A.out
         exact⟨hu.setCell (by simp) _,hf.other hrp _ _,cc+1,rfl,by omega,by omega,rfl,(hp.setSet cc.toNat (by omega) true).congr _ (fun q _=>add_step set a cc q hc0 (by omega))⟩
       ·clear hu hf hp
        go_wp2_with fail
        have hcc:cc - 1=a:=by omega
        go_roundg fuel
        case measure=>omega
        case rel=>
         obtain⟨hu,hf,hp⟩:=A.out
         rw [hcc] at hp
         exact⟨hu,Or.inl ⟨false,j,_,rfl,hf,hp,HI.out,by omega,by omega⟩⟩
     case true=>
      rintro e w4 ⟨rfl,hu4,hf4⟩
      have HB3:Hid (Sp.isAt s j 45=true):=hb3
      have HP4:Hid (PtAt w4 w.heap.size (lps b set)):=HP3.out.upd hu4 (by simpa using hrp.symm)
      have HU4:Hid (Upd [r,w.heap.size] w w4):=HU3.out.trans hu4.one
      have HF4:Hid (RdAt w4 r s { x with i:=j+1 }):=hf4
      have hj1:j+1≤s.size:=by simp [Sp.isAt] at hb3;omega
      clear hu4 hf4 HP3 HU3 HF3 hb3
      obtain⟨c0,c1,c2,c3,c4,c5,fz⟩:=HF4.out.facts
      go_wp2_with fail
      refine (end_any r s { x with i:=j+1 } _ (by exact HF4.out) hs (by exact HE.out)).mono ?_
      rintro e w5 ⟨hu5,hq5⟩
      have HP5:Hid (PtAt w5 w.heap.size (lps b set)):=HP4.out.upd hu5 (by simpa using hrp.symm)
      have HU5:Hid (Upd [r,w.heap.size] w w5):=HU4.out.trans hu5.one
      clear hu5 HP4 HU4 HF4 c0 c1 c2 c3 c4 c5 fz
      revert hq5
      cases hr:Sp.byteBut true s (j+1)
      case error f1=>
       obtain⟨e1,a1⟩:=f1
       rintro ⟨v,i',h0,h1,rfl,hf3⟩
       have HE1:Hid (e1≠0):=by show _≠_;rw [byteBut_err hr];decide
       have HR:Hid (Sp.items s (s.size+1) (fun _=>false) j0=.error (e1,a1)):=by show _=_;rw [HQ'.out,items_succ,item_3 HR1.out HB3.out hr]
       have HF5:Hid (RdAt w5 r s ⟨i',e1,a1,x.d,x.t⟩):=hf3
       obtain⟨c0,c1,c2,c3,c4,c5,fz⟩:=HF5.out.facts
       have HEb1:(e1 == 0)=false:=by simpa using HE1.out
       clear hf3 hr
       go_wp2_with fail
       refine wp_loop_rounds 1 ?_
       rw [rounds_succ]
       by_cases hav:a≤v
       all_goals
        go_wp2_with fail
        go_roundg 0
        case measure=>omega
        case rel=>exact⟨HU5.out,Or.inr ⟨rfl,rfl,e1,a1,i',_,HE1.out,HR.out,HF5.out,HP5.out⟩⟩
      case ok f1=>
       obtain⟨b2,k⟩:=f1
       rintro ⟨rfl,hf3⟩
       obtain⟨hb0,hb1,hjk,hks⟩:=byteBut_ok hr
       have HF5:Hid (RdAt w5 r s { x with i:=k }):=hf3
       obtain⟨c0,c1,c2,c3,c4,c5,fz⟩:=HF5.out.facts
       by_cases hlt:b2 < a
       ·have HR:Hid (Sp.items s (s.size+1) (fun _=>false) j0=.error (3,(j+1:Nat))):=by show _=_;rw [HQ'.out,items_succ,item_4 HR1.out HB3.out hr hlt]
        clear hf3 hr
        go_wp2_with fail
        refine (fail_any r s { x with i:=k } _ _ _ (by exact HF5.out)).mono ?_
        rw [RS.fail_ok (by exact HE.out)]
        rintro e w6 ⟨rfl,hu6,hf6⟩
        have HP6:Hid (PtAt w6 w.heap.size (lps b set)):=HP5.out.upd hu6 (by simpa using hrp.symm)
        have HU6:Hid (Upd [r,w.heap.size] w w6):=HU5.out.trans hu6.one
        have HF6:Hid (RdAt w6 r s ⟨k,3,(j+1:Nat),x.d,x.t⟩):=hf6
        clear hu6 hf6 c0 c1 c2 c3 c4 c5 fz
        obtain⟨c0,c1,c2,c3,c4,c5,fz⟩:=HF6.out.facts
        go_wp2_with fail
        refine wp_loop_rounds 1 ?_
        rw [rounds_succ]
        go_wp2_with fail
        go_roundg 0
        case measure=>omega
        case rel=>exact⟨HU6.out,Or.inr ⟨rfl,rfl,3,_,k,_,by decide,HR.out,HF6.out,HP6.out⟩⟩
       ·have HI:Hid (Sp.items s (s.size+1) (fun _=>false) j0=after s fuel (Sp.add set a b2) k):=by show _=_;rw [HQ'.out,items_succ,item_5 HR1.out HB3.out hr hlt]
        clear hf3 hr
        go_wp2_with fail
        go_loopg [10] (b2+1 - a).toNat (fun gn c wi=>InnerInv r w.heap.size s { x with i:=k } b set a b2 w gn c wi)
        case atStart=>exact⟨HU5.out,HF5.out,a,rfl,by omega,by omega,rfl,HP5.out.congr _ (fun q _=>by unfold Sp.add lps;simp;intro _;omega)⟩
        case round=>
         clear HF5 HP5 HU5 c0 c1 c2 c3 c4 c5 fz
         obtain⟨hu,hf,cc,rfl,hc0,hc1,hgk,hp⟩:=hrel
         obtain⟨c0,c1,c2,c3,c4,c5,fz⟩:=hf.facts
         have HGK:Hid (gk=(b2+1 - cc).toNat):=hgk
         have A:Aside (Upd [r,w.heap.size] w wr∧RdAt wr r s { x with i:=k }∧PtAt wr w.heap.size (lps b (Sp.add set a (cc - 1)))):=⟨hu,hf,hp⟩
         have hpz:=hp.facts.fz
         clear hgk
         by_cases hlt:cc≤b2
         ·have hcell:=hp.setFact cc.toNat (by omega)
          clear hu hf hp
          go_wp2_with fail
          go_roundg (b2+1 - (cc+1)).toNat
          case measure=>have:=HGK.out;omega
          case rel=>
           obtain⟨hu,hf,hp⟩:=A.out
           exact⟨hu.setCell (by simp) _,hf.other hrp _ _,cc+1,rfl,by omega,by omega,rfl,(hp.setSet cc.toNat (by omega) true).congr _ (fun q _=>add_step set a cc q hc0 (by omega))⟩
         ·clear hu hf hp
          go_wp2_with fail
          have hcc:cc - 1=b2:=by omega
          go_roundg fuel
          case measure=>omega
          case rel=>
           obtain⟨hu,hf,hp⟩:=A.out
           rw [hcc] at hp
           exact⟨hu,Or.inl ⟨false,k,_,rfl,hf,hp,HI.out,by omega,by omega⟩⟩
  ·obtain⟨c0,c1,c2,c3,c4,c5,fz⟩:=hf.facts
   have HEb:(e1 == 0)=false:=by simpa using he1
   have A:Aside (e1≠0∧Sp.items s (s.size+1) (fun _=>false) j0=.error (e1,a1)∧RdAt wr r s { x with i:=i',e:=e1,a:=a1 }∧PtAt wr w.heap.size ps∧Upd [r,w.heap.size] w wr):=⟨he1,heq,hf,hp,hu⟩
   clear he1 heq hf hp hu
   go_wp2_with fail
   go_ret
   obtain⟨he1,heq,hf,hp,hu⟩:=A.out
   exact list_no hh.out HB.out heq he1 hu hf hp
theorem PartsAt.upd {l:List Nat} {w w':World} {S:Nat→Prop} {ps:List Nat} {ts:List Tr} (h:PartsAt w S ps ts) (u:Upd l w w') (hl:∀ k,k∈l→¬ S k):PartsAt w' S ps ts:=
 PartsAt.same S ps ts h (fun k hk hs=>u.block k hs (fun q=>hl k q hk))
def ChoiceC (k:Nat):Prop:=∀ (r:Nat) (s:ByteArray) (x:RS) (w:World),RdAt w r s x→s.size≤200→x.e=0→x.i≤s.size→x.d=9 - (k:Int)→0≤x.t→x.t≤9→
 Calls Tryz.prog 43 #[.pointer (some ⟨r,0,none⟩)] w (PartOut r s x w (Sp.choice s k ⟨x.i,x.t⟩))
def ErrOut (r:Nat) (s:ByteArray) (x:RS) (w:World) (k:Ending) (w':World):Prop:=Upd [] w w'∧∃ p ps,k=.returned (ptr p)∧w.heap.size≤p∧PtAt w' p ps
set_option maxHeartbeats 400000 in
theorem choice_err (r:Nat) (s:ByteArray) (x:RS) (w:World) (h:RdAt w r s x) (he:x.e≠0) :
  Calls Tryz.prog 43 #[.pointer (some ⟨r,0,none⟩)] w (ErrOut r s x w):=by
 have hr:=h.lt
 have hrp:r≠w.heap.size:=by omega
 have h':=h.alloc (.cells ((Tryz.zeroCells126.setIfInBounds 0 (.int .u8 124)).setIfInBounds 262 (.int .i64 (-1))) 126)
 obtain⟨c0,c1,c2,c3,c4,c5,fz⟩:=h'.facts
 have hb:(x.e == 0)=false:=by simpa using he
 clear h h' he
 go_enter Tryz.func43,Tryz.ntmps43
 go_wp2_with fail
 refine wp_loop_rounds 1 ?_
 rw [rounds_succ]
 go_wp2_with fail
 go_ret
 exact⟨by (repeat (first|exact Upd.refl _ _|refine Upd.drewN ?_|refine Upd.drew ?_|refine Upd.setCell ?_ (by simp) _|refine Upd.alloc ?_ _)),_,_,rfl,Nat.le_refl _,PtAt.new ((PtC.zero.set0 124).set262 (-1))⟩
theorem group_no {r:Nat} {s:ByteArray} {i0 i':Nat} {a d t t' e1 a1:Int} {w w2:World} {res:Sp.Res (Tr×Sp.At)} {ps:PS} (hq:res=.error (e1,a1)) (he:e1≠0)
  (hu:Upd [r,w.heap.size] w w2) (hf:RdAt w2 r s ⟨i',e1,a1,d,t'⟩) (hp:PtAt w2 w.heap.size ps):PartOut r s ⟨i0+1,0,a,d,t⟩ w res (.returned (.pointer (some ⟨w.heap.size,0,none⟩))) w2:=by
 subst hq
 exact⟨(Upd.refl _ _).hide hu.swap (Nat.le_refl _),he,w.heap.size,i',t',ps,rfl,Nat.le_refl _,hp,hf⟩
def gLab (b:Bool) (kk:Nat):Lab:={ Sp.blank with kind:=3,told:=b,num:=kk }
theorem group_ok {r:Nat} {s:ByteArray} {i0 j:Nat} {a d t t1:Int} {w w2:World} {res:Sp.Res (Tr×Sp.At)} {b:Bool} {kk:Nat} {tr:Tr} {c g:Nat} (hq:res=.ok (⟨gLab b kk,[tr]⟩,⟨j,t1⟩))
  (hu:Upd [r,w.heap.size] w w2) (hf:RdAt w2 r s ⟨j,0,a,d,t1⟩) (hp:PtAt w2 w.heap.size (psOf (gLab b kk) (.slice (some ⟨g,0,none⟩) 1 1))) (hgp:w.heap.size < g)
  (hg:w2.heap[g]?=some (.cells #[ptr c] 74 (0,0))) (hc:PartsAt w2 (fun k=>w.heap.size < k∧k < g) [c] [tr]):PartOut r s ⟨i0+1,0,a,d,t⟩ w res (.returned (.pointer (some ⟨w.heap.size,0,none⟩))) w2:=by
 subst hq
 refine⟨(Upd.refl _ _).hide hu.swap (Nat.le_refl _),w.heap.size,rfl,?_,hf⟩
 rw [PartsAt_cons]
 refine⟨Nat.le_refl _,⟨_,[c],hp,⟨by simp,Or.inr ⟨g,1,_,rfl,by omega,hg,by simp,by decide,by simp,by simp⟩⟩,fun g' hg'=>by simp [Value.ownBlock] at hg';omega,?_⟩,PartsAt_nil _ _⟩
 refine PartsAt.mono _ _ _ _ hc (fun k hk _=>⟨by omega,hk.1,?_⟩)
 intro e;simp [Value.ownBlock] at e;omega
set_option maxHeartbeats 400000 in
theorem group_deep (r:Nat) (s:ByteArray) (i0:Nat) (a:Int) (d:Nat) (t:Int) (w:World) (sub:Sp.At→Sp.Res (Tr×Sp.At)) (h:RdAt w r s ⟨i0+1,0,a,d,t⟩) (hs:s.size≤200) (hi:i0+1≤s.size) (hd9:d≤8) (ht0:0≤t) (ht9:t≤9) (hd8:8≤d) :
  Calls Tryz.prog 109 #[.pointer (some ⟨r,0,none⟩)] w (PartOut r s ⟨i0+1,0,a,d,t⟩ w (Sp.group sub s d ⟨i0,t⟩)):=by
 have hr:=h.lt
 have hrp:r≠w.heap.size:=by omega
 have HR:Hid (Sp.group sub s d ⟨i0,t⟩=.error (5,i0)):=by show _=_;unfold Sp.group Sp.head;rw [if_pos hd8]
 obtain⟨c0,c1,c2,c3,c4,c5,fz⟩:=h.facts
 have hh:Hid (RdAt w r s ⟨i0+1,0,a,d,t⟩):=h
 have hpn:Hid (PtAt (w.alloc (.cells (((Tryz.zeroCells126.setIfInBounds 0 (.int .u8 40)).setIfInBounds 262 (.int .i64 (-1))).setIfInBounds 261 (.bool true)) 126)) w.heap.size _):=PtAt.new (((PtC.zero.set0 40).set262 (-1)).set261 true)
 clear h
 go_enter Tryz.func109,Tryz.ntmps109
 go_wp2_with fail
 refine (fail_any r s ⟨i0+1,0,a,d,t⟩ _ _ _ (by exact hh.out.alloc _)).mono ?_
 rw [RS.fail_ok rfl]
 rintro e w1 ⟨rfl,hu1,hf1⟩
 have hf1':RdAt w1 r s ⟨i0+1,5,i0,d,t⟩:=by simpa using hf1
 have HF1:Hid (RdAt w1 r s ⟨i0+1,5,i0,d,t⟩):=hf1'
 clear hf1'
 have HP1:Hid (PtAt w1 w.heap.size _):=hpn.out.upd hu1 (by simpa using hrp.symm)
 have HU1:Hid (Upd [r,w.heap.size] w w1):=((Upd.refl _ _).alloc _).trans hu1.one
 clear hu1 hf1
 go_wp2_with fail
 refine (is_any r s ⟨i0+1,5,i0,d,t⟩ _ _ (by exact HF1.out) hs).mono ?_
 rw [isB_err (by exact (by decide:(5:Int)≠0))]
 rintro e w2 ⟨rfl,hu2,hf2⟩
 have HF2:Hid (RdAt w2 r s ⟨i0+1,5,i0,d,t⟩):=hf2
 have HP2:Hid (PtAt w2 w.heap.size _):=HP1.out.upd hu2 (by simpa using hrp.symm)
 have HU2:Hid (Upd [r,w.heap.size] w w2):=HU1.out.trans hu2.one
 clear hu2 hf2 c0 c1 c2 c3 c4 c5 fz
 obtain⟨c0,c1,c2,c3,c4,c5,fz⟩:=HF2.out.facts
 have HF2':Hid (RdAt (w2.setCell ⟨r,5,none⟩ (.int .i64 (t+1))) r s ⟨i0+1,5,i0,d,t+1⟩):=HF2.out.set5 _
 have HP2':Hid (PtAt (w2.setCell ⟨r,5,none⟩ (.int .i64 (t+1))) w.heap.size _):=HP2.out.other hrp.symm _ _
 have HU2':Hid (Upd [r,w.heap.size] w (w2.setCell ⟨r,5,none⟩ (.int .i64 (t+1)))):=HU2.out.setCell (by simp) _
 rcases Classical.em (9 < t+1) with ht|ht
 ·go_wp2_with fail
  refine (fail_any r s ⟨i0+1,5,i0,d,t+1⟩ _ _ _ (by exact HF2'.out)).mono ?_
  rw [RS.fail_no (by exact (by decide:(5:Int)≠0))]
  rintro e w3 ⟨rfl,hu3,hf3⟩
  have HF3:Hid (RdAt w3 r s ⟨i0+1,5,i0,d,t+1⟩):=hf3
  have HP3:Hid (PtAt w3 w.heap.size _):=HP2'.out.upd hu3 (by simpa using hrp.symm)
  have HU3:Hid (Upd [r,w.heap.size] w w3):=HU2'.out.trans hu3.one
  clear hu3 hf3
  clear c0 c1 c2 c3 c4 c5 fz
  obtain⟨c0,c1,c2,c3,c4,c5,fz⟩:=HF3.out.facts
  go_wp2_with fail
  refine (choice_err r s ⟨i0+1,5,i0,(d:Int)+1,t+1⟩ _ (by exact HF3.out.set4 ((d:Int)+1)) (by exact (by decide:(5:Int)≠0))).mono ?_
  rintro e w5 ⟨hu5,c,ps5,rfl,hc5,hp5⟩
  have HF5:Hid (RdAt w5 r s ⟨i0+1,5,i0,(d:Int)+1,t+1⟩):=(HF3.out.set4 ((d:Int)+1)).upd hu5 (by simp)
  have HP5:Hid (PtAt w5 w.heap.size _):=(HP3.out.other hrp.symm 4 (.int .i64 ((d:Int)+1))).upd hu5 (by simp)
  have HU5:Hid (Upd [r,w.heap.size] w w5):=(HU3.out.setCell (p:=⟨r,4,none⟩) (by simp) _).trans (hu5.mono (by simp))
  clear hu5
  clear c0 c1 c2 c3 c4 c5 fz
  obtain⟨c0,c1,c2,c3,c4,c5,fz⟩:=HF5.out.facts
  obtain⟨p0,p1,p258,p259,p260,p261,p262,p263,pz⟩:=HP5.out.facts
  unfold ptr
  have hpl5:w.heap.size < w5.heap.size:=HP5.out.lt
  have hrl5:r < w5.heap.size:=HF5.out.lt
  go_wp2_with fail
  refine (is_any r s ⟨i0+1,5,i0,(d:Int),t+1⟩ _ _ (by exact ((HF5.out.set4 (d:Int)).other hrp 1 _).alloc _) hs).mono ?_
  rw [isB_err (by exact (by exact (by decide:(5:Int)≠0)))]
  rintro e w7 ⟨rfl,hu7,hf7⟩
  have HP7:Hid (PtAt w7 w.heap.size _):=(((HP5.out.other hrp.symm 4 _).set1 _).alloc _).upd hu7 (by simpa using hrp.symm)
  have HU7:Hid (Upd [r,w.heap.size] w w7):=(((HU5.out.setCell (p:=⟨r,4,none⟩) (by simp) _).setCell (p:=⟨w.heap.size,1,none⟩) (by simp) _).alloc _).trans hu7.one
  have HF7:Hid (RdAt w7 r s ⟨i0+1,5,i0,(d:Int),t+1⟩):=hf7
  clear hu7 hf7 c0 c1 c2 c3 c4 c5 fz p0 p1 p258 p259 p260 p261 p262 p263 pz
  obtain⟨c0,c1,c2,c3,c4,c5,fz⟩:=HF7.out.facts
  go_wp2_with fail
  refine (fail_any r s ⟨i0+1,5,i0,(d:Int),t+1⟩ _ _ _ (by exact HF7.out)).mono ?_
  rw [RS.fail_no (by exact (by exact (by decide:(5:Int)≠0)))]
  rintro e w8 ⟨rfl,hu8,hf8⟩
  have HP8:Hid (PtAt w8 w.heap.size _):=HP7.out.upd hu8 (by simpa using hrp.symm)
  have HU8:Hid (Upd [r,w.heap.size] w w8):=HU7.out.trans hu8.one
  clear hu8
  go_wp2_with fail
  go_ret
  exact group_no HR.out (by exact (by decide:(5:Int)≠0)) HU8.out hf8 HP8.out
 ·go_wp2_with fail
  refine (choice_err r s ⟨i0+1,5,i0,(d:Int)+1,t+1⟩ _ (by exact HF2'.out.set4 ((d:Int)+1)) (by exact (by decide:(5:Int)≠0))).mono ?_
  rintro e w5 ⟨hu5,c,ps5,rfl,hc5,hp5⟩
  have HF5:Hid (RdAt w5 r s ⟨i0+1,5,i0,(d:Int)+1,t+1⟩):=(HF2'.out.set4 ((d:Int)+1)).upd hu5 (by simp)
  have HP5:Hid (PtAt w5 w.heap.size _):=(HP2'.out.other hrp.symm 4 (.int .i64 ((d:Int)+1))).upd hu5 (by simp)
  have HU5:Hid (Upd [r,w.heap.size] w w5):=(HU2'.out.setCell (p:=⟨r,4,none⟩) (by simp) _).trans (hu5.mono (by simp))
  clear hu5
  clear c0 c1 c2 c3 c4 c5 fz
  obtain⟨c0,c1,c2,c3,c4,c5,fz⟩:=HF5.out.facts
  obtain⟨p0,p1,p258,p259,p260,p261,p262,p263,pz⟩:=HP5.out.facts
  unfold ptr
  have hpl5:w.heap.size < w5.heap.size:=HP5.out.lt
  have hrl5:r < w5.heap.size:=HF5.out.lt
  go_wp2_with fail
  refine (is_any r s ⟨i0+1,5,i0,(d:Int),t+1⟩ _ _ (by exact ((HF5.out.set4 (d:Int)).other hrp 1 _).alloc _) hs).mono ?_
  rw [isB_err (by exact (by exact (by decide:(5:Int)≠0)))]
  rintro e w7 ⟨rfl,hu7,hf7⟩
  have HP7:Hid (PtAt w7 w.heap.size _):=(((HP5.out.other hrp.symm 4 _).set1 _).alloc _).upd hu7 (by simpa using hrp.symm)
  have HU7:Hid (Upd [r,w.heap.size] w w7):=(((HU5.out.setCell (p:=⟨r,4,none⟩) (by simp) _).setCell (p:=⟨w.heap.size,1,none⟩) (by simp) _).alloc _).trans hu7.one
  have HF7:Hid (RdAt w7 r s ⟨i0+1,5,i0,(d:Int),t+1⟩):=hf7
  clear hu7 hf7 c0 c1 c2 c3 c4 c5 fz p0 p1 p258 p259 p260 p261 p262 p263 pz
  obtain⟨c0,c1,c2,c3,c4,c5,fz⟩:=HF7.out.facts
  go_wp2_with fail
  refine (fail_any r s ⟨i0+1,5,i0,(d:Int),t+1⟩ _ _ _ (by exact HF7.out)).mono ?_
  rw [RS.fail_no (by exact (by exact (by decide:(5:Int)≠0)))]
  rintro e w8 ⟨rfl,hu8,hf8⟩
  have HP8:Hid (PtAt w8 w.heap.size _):=HP7.out.upd hu8 (by simpa using hrp.symm)
  have HU8:Hid (Upd [r,w.heap.size] w w8):=HU7.out.trans hu8.one
  clear hu8
  go_wp2_with fail
  go_ret
  exact group_no HR.out (by exact (by decide:(5:Int)≠0)) HU8.out hf8 HP8.out
set_option maxHeartbeats 400000 in
theorem group_quiet_no (r:Nat) (s:ByteArray) (i0:Nat) (a:Int) (d:Nat) (t:Int) (w:World) (sub:Sp.At→Sp.Res (Tr×Sp.At)) (h:RdAt w r s ⟨i0+1,0,a,d,t⟩) (hs:s.size≤200) (hi:i0+1≤s.size) (hd9:d≤8) (ht0:0≤t) (ht9:t≤9) (hd8:¬ 8≤d) (q1:Sp.isAt s (i0+1) 63=true) (q2:Sp.isAt s (i0+1+1) 58=false) :
  Calls Tryz.prog 109 #[.pointer (some ⟨r,0,none⟩)] w (PartOut r s ⟨i0+1,0,a,d,t⟩ w (Sp.group sub s d ⟨i0,t⟩)):=by
 have hr:=h.lt
 have hrp:r≠w.heap.size:=by omega
 have HR:Hid (Sp.group sub s d ⟨i0,t⟩=.error (3,(i0+1+1:Nat))):=by show _=_;unfold Sp.group Sp.head;rw [if_neg hd8];simp [q1,Sp.need,q2];omega
 obtain⟨c0,c1,c2,c3,c4,c5,fz⟩:=h.facts
 have hh:Hid (RdAt w r s ⟨i0+1,0,a,d,t⟩):=h
 have hpn:Hid (PtAt (w.alloc (.cells (((Tryz.zeroCells126.setIfInBounds 0 (.int .u8 40)).setIfInBounds 262 (.int .i64 (-1))).setIfInBounds 261 (.bool true)) 126)) w.heap.size _):=PtAt.new (((PtC.zero.set0 40).set262 (-1)).set261 true)
 clear h
 have Q1:Hid (Sp.isAt s (i0+1) 63=true):=q1
 have Q2:Hid (Sp.isAt s (i0+1+1) 58=false):=q2
 clear q1 q2
 go_enter Tryz.func109,Tryz.ntmps109
 go_wp2_with fail
 refine (is_any r s ⟨i0+1,0,a,d,t⟩ _ _ (by exact hh.out.alloc _) hs).mono ?_
 rw [isB_ok rfl,show Sp.isAt s _ 63=true from Q1.out]
 rintro e w1 ⟨rfl,hu1,hf1⟩
 have HF1:Hid (RdAt w1 r s ⟨i0+1+1,0,a,d,t⟩):=hf1
 have HP1:Hid (PtAt w1 w.heap.size _):=(hpn.out).upd hu1 (by simpa using hrp.symm)
 have HU1:Hid (Upd [r,w.heap.size] w w1):=((Upd.refl _ _).alloc _).trans hu1.one
 clear hu1 hf1
 obtain⟨p0,p1,p258,p259,p260,p261,p262,p263,pz⟩:=HP1.out.facts
 go_wp2_with fail
 refine (is_any r s ⟨i0+1+1,0,a,d,t⟩ _ _ (by exact HF1.out.other hrp _ _) hs).mono ?_
 rw [isB_ok rfl,show Sp.isAt s _ 58=false from Q2.out]
 rintro e w2 ⟨rfl,hu2,hf2⟩
 have HF2:Hid (RdAt w2 r s ⟨i0+1+1,0,a,d,t⟩):=hf2
 have HP2:Hid (PtAt w2 w.heap.size _):=(HP1.out.set261 false).upd hu2 (by simpa using hrp.symm)
 have HU2:Hid (Upd [r,w.heap.size] w w2):=(HU1.out.setCell (p:=⟨w.heap.size,261,none⟩) (by simp) _).trans hu2.one
 clear hu2 hf2
 clear p0 p1 p258 p259 p260 p261 p262 p263 pz
 clear c0 c1 c2 c3 c4 c5 fz
 obtain⟨c0,c1,c2,c3,c4,c5,fz⟩:=HF2.out.facts
 go_wp2_with fail
 refine (fail_any r s ⟨i0+1+1,0,a,d,t⟩ _ _ _ (by exact HF2.out)).mono ?_
 rw [RS.fail_ok rfl]
 rintro e w3 ⟨rfl,hu3,hf3⟩
 have HF3:Hid (RdAt w3 r s ⟨i0+1+1,3,(i0+1+1:Nat),d,t⟩):=hf3
 have HP3:Hid (PtAt w3 w.heap.size _):=HP2.out.upd hu3 (by simpa using hrp.symm)
 have HU3:Hid (Upd [r,w.heap.size] w w3):=HU2.out.trans hu3.one
 clear hu3 hf3
 clear c0 c1 c2 c3 c4 c5 fz
 obtain⟨c0,c1,c2,c3,c4,c5,fz⟩:=HF3.out.facts
 go_wp2_with fail
 refine (choice_err r s ⟨i0+1+1,3,(i0+1+1:Nat),(d:Int)+1,t⟩ _ (by exact HF3.out.set4 ((d:Int)+1)) (by exact (by decide:(3:Int)≠0))).mono ?_
 rintro e w5 ⟨hu5,c,ps5,rfl,hc5,hp5⟩
 have HF5:Hid (RdAt w5 r s ⟨i0+1+1,3,(i0+1+1:Nat),(d:Int)+1,t⟩):=(HF3.out.set4 ((d:Int)+1)).upd hu5 (by simp)
 have HP5:Hid (PtAt w5 w.heap.size _):=(HP3.out.other hrp.symm 4 (.int .i64 ((d:Int)+1))).upd hu5 (by simp)
 have HU5:Hid (Upd [r,w.heap.size] w w5):=(HU3.out.setCell (p:=⟨r,4,none⟩) (by simp) _).trans (hu5.mono (by simp))
 clear hu5
 clear c0 c1 c2 c3 c4 c5 fz
 obtain⟨c0,c1,c2,c3,c4,c5,fz⟩:=HF5.out.facts
 obtain⟨p0,p1,p258,p259,p260,p261,p262,p263,pz⟩:=HP5.out.facts
 unfold ptr
 have hpl5:w.heap.size < w5.heap.size:=HP5.out.lt
 have hrl5:r < w5.heap.size:=HF5.out.lt
 go_wp2_with fail
 refine (is_any r s ⟨i0+1+1,3,(i0+1+1:Nat),(d:Int),t⟩ _ _ (by exact ((HF5.out.set4 (d:Int)).other hrp 1 _).alloc _) hs).mono ?_
 rw [isB_err (by exact (by exact (by decide:(3:Int)≠0)))]
 rintro e w7 ⟨rfl,hu7,hf7⟩
 have HP7:Hid (PtAt w7 w.heap.size _):=(((HP5.out.other hrp.symm 4 _).set1 _).alloc _).upd hu7 (by simpa using hrp.symm)
 have HU7:Hid (Upd [r,w.heap.size] w w7):=(((HU5.out.setCell (p:=⟨r,4,none⟩) (by simp) _).setCell (p:=⟨w.heap.size,1,none⟩) (by simp) _).alloc _).trans hu7.one
 have HF7:Hid (RdAt w7 r s ⟨i0+1+1,3,(i0+1+1:Nat),(d:Int),t⟩):=hf7
 clear hu7 hf7 c0 c1 c2 c3 c4 c5 fz p0 p1 p258 p259 p260 p261 p262 p263 pz
 obtain⟨c0,c1,c2,c3,c4,c5,fz⟩:=HF7.out.facts
 go_wp2_with fail
 refine (fail_any r s ⟨i0+1+1,3,(i0+1+1:Nat),(d:Int),t⟩ _ _ _ (by exact HF7.out)).mono ?_
 rw [RS.fail_no (by exact (by exact (by decide:(3:Int)≠0)))]
 rintro e w8 ⟨rfl,hu8,hf8⟩
 have HP8:Hid (PtAt w8 w.heap.size _):=HP7.out.upd hu8 (by simpa using hrp.symm)
 have HU8:Hid (Upd [r,w.heap.size] w w8):=HU7.out.trans hu8.one
 clear hu8
 go_wp2_with fail
 go_ret
 exact group_no HR.out (by exact (by decide:(3:Int)≠0)) HU8.out hf8 HP8.out
set_option maxHeartbeats 400000 in
theorem group_many (r:Nat) (s:ByteArray) (i0:Nat) (a:Int) (d:Nat) (t:Int) (w:World) (sub:Sp.At→Sp.Res (Tr×Sp.At)) (h:RdAt w r s ⟨i0+1,0,a,d,t⟩) (hs:s.size≤200) (hi:i0+1≤s.size) (hd9:d≤8) (ht0:0≤t) (ht9:t≤9) (hd8:¬ 8≤d) (q1:Sp.isAt s (i0+1) 63=false) (q2:9 < t+1) :
  Calls Tryz.prog 109 #[.pointer (some ⟨r,0,none⟩)] w (PartOut r s ⟨i0+1,0,a,d,t⟩ w (Sp.group sub s d ⟨i0,t⟩)):=by
 have hr:=h.lt
 have hrp:r≠w.heap.size:=by omega
 have HR:Hid (Sp.group sub s d ⟨i0,t⟩=.error (6,i0)):=by show _=_;unfold Sp.group Sp.head;rw [if_neg hd8];simp [q1,(by omega:9≤t)]
 obtain⟨c0,c1,c2,c3,c4,c5,fz⟩:=h.facts
 have hh:Hid (RdAt w r s ⟨i0+1,0,a,d,t⟩):=h
 have hpn:Hid (PtAt (w.alloc (.cells (((Tryz.zeroCells126.setIfInBounds 0 (.int .u8 40)).setIfInBounds 262 (.int .i64 (-1))).setIfInBounds 261 (.bool true)) 126)) w.heap.size _):=PtAt.new (((PtC.zero.set0 40).set262 (-1)).set261 true)
 clear h
 have Q1:Hid (Sp.isAt s (i0+1) 63=false):=q1
 clear q1
 go_enter Tryz.func109,Tryz.ntmps109
 go_wp2_with fail
 refine (is_any r s ⟨i0+1,0,a,d,t⟩ _ _ (by exact hh.out.alloc _) hs).mono ?_
 rw [isB_ok rfl,show Sp.isAt s _ 63=false from Q1.out]
 rintro e w2 ⟨rfl,hu2,hf2⟩
 have HF2:Hid (RdAt w2 r s ⟨i0+1,0,a,d,t⟩):=hf2
 have HP2:Hid (PtAt w2 w.heap.size _):=(hpn.out).upd hu2 (by simpa using hrp.symm)
 have HU2:Hid (Upd [r,w.heap.size] w w2):=((Upd.refl _ _).alloc _).trans hu2.one
 clear hu2 hf2
 clear c0 c1 c2 c3 c4 c5 fz
 obtain⟨c0,c1,c2,c3,c4,c5,fz⟩:=HF2.out.facts
 have HF2':Hid (RdAt (w2.setCell ⟨r,5,none⟩ (.int .i64 (t+1))) r s ⟨i0+1,0,a,d,t+1⟩):=HF2.out.set5 _
 have HP2':Hid (PtAt (w2.setCell ⟨r,5,none⟩ (.int .i64 (t+1))) w.heap.size _):=HP2.out.other hrp.symm _ _
 have HU2':Hid (Upd [r,w.heap.size] w (w2.setCell ⟨r,5,none⟩ (.int .i64 (t+1)))):=HU2.out.setCell (by simp) _
 go_wp2_with fail
 refine (fail_any r s ⟨i0+1,0,a,d,t+1⟩ _ _ _ (by exact HF2'.out)).mono ?_
 rw [RS.fail_ok rfl]
 rintro e w3 ⟨rfl,hu3,hf3⟩
 have hf3':RdAt w3 r s ⟨i0+1,6,i0,d,t+1⟩:=by simpa using hf3
 have HF3:Hid (RdAt w3 r s ⟨i0+1,6,i0,d,t+1⟩):=hf3'
 clear hf3'
 have HP3:Hid (PtAt w3 w.heap.size _):=HP2'.out.upd hu3 (by simpa using hrp.symm)
 have HU3:Hid (Upd [r,w.heap.size] w w3):=HU2'.out.trans hu3.one
 clear hu3 hf3
 clear c0 c1 c2 c3 c4 c5 fz
 obtain⟨c0,c1,c2,c3,c4,c5,fz⟩:=HF3.out.facts
 go_wp2_with fail
 refine (choice_err r s ⟨i0+1,6,i0,(d:Int)+1,t+1⟩ _ (by exact HF3.out.set4 ((d:Int)+1)) (by exact (by decide:(6:Int)≠0))).mono ?_
 rintro e w5 ⟨hu5,c,ps5,rfl,hc5,hp5⟩
 have HF5:Hid (RdAt w5 r s ⟨i0+1,6,i0,(d:Int)+1,t+1⟩):=(HF3.out.set4 ((d:Int)+1)).upd hu5 (by simp)
 have HP5:Hid (PtAt w5 w.heap.size _):=(HP3.out.other hrp.symm 4 (.int .i64 ((d:Int)+1))).upd hu5 (by simp)
 have HU5:Hid (Upd [r,w.heap.size] w w5):=(HU3.out.setCell (p:=⟨r,4,none⟩) (by simp) _).trans (hu5.mono (by simp))
 clear hu5
 clear c0 c1 c2 c3 c4 c5 fz
 obtain⟨c0,c1,c2,c3,c4,c5,fz⟩:=HF5.out.facts
 obtain⟨p0,p1,p258,p259,p260,p261,p262,p263,pz⟩:=HP5.out.facts
 unfold ptr
 have hpl5:w.heap.size < w5.heap.size:=HP5.out.lt
 have hrl5:r < w5.heap.size:=HF5.out.lt
 go_wp2_with fail
 refine (is_any r s ⟨i0+1,6,i0,(d:Int),t+1⟩ _ _ (by exact ((HF5.out.set4 (d:Int)).other hrp 1 _).alloc _) hs).mono ?_
 rw [isB_err (by exact (by exact (by decide:(6:Int)≠0)))]
 rintro e w7 ⟨rfl,hu7,hf7⟩
 have HP7:Hid (PtAt w7 w.heap.size _):=(((HP5.out.other hrp.symm 4 _).set1 _).alloc _).upd hu7 (by simpa using hrp.symm)
 have HU7:Hid (Upd [r,w.heap.size] w w7):=(((HU5.out.setCell (p:=⟨r,4,none⟩) (by simp) _).setCell (p:=⟨w.heap.size,1,none⟩) (by simp) _).alloc _).trans hu7.one
 have HF7:Hid (RdAt w7 r s ⟨i0+1,6,i0,(d:Int),t+1⟩):=hf7
 clear hu7 hf7 c0 c1 c2 c3 c4 c5 fz p0 p1 p258 p259 p260 p261 p262 p263 pz
 obtain⟨c0,c1,c2,c3,c4,c5,fz⟩:=HF7.out.facts
 go_wp2_with fail
 refine (fail_any r s ⟨i0+1,6,i0,(d:Int),t+1⟩ _ _ _ (by exact HF7.out)).mono ?_
 rw [RS.fail_no (by exact (by exact (by decide:(6:Int)≠0)))]
 rintro e w8 ⟨rfl,hu8,hf8⟩
 have HP8:Hid (PtAt w8 w.heap.size _):=HP7.out.upd hu8 (by simpa using hrp.symm)
 have HU8:Hid (Upd [r,w.heap.size] w w8):=HU7.out.trans hu8.one
 clear hu8
 go_wp2_with fail
 go_ret
 exact group_no HR.out (by exact (by decide:(6:Int)≠0)) HU8.out hf8 HP8.out
theorem group_slot {r p:Nat} {w5 w7:World} {v1 v2:Value} {o1 o2:Nat} {c:Nat} (hu:Upd [r] (((w5.setCell ⟨r,o1,none⟩ v1).setCell ⟨p,o2,none⟩ v2).alloc (.cells #[.pointer (some ⟨c,0,none⟩)] 74)) w7) (hr:r < w5.heap.size) :
  w7.heap[w5.heap.size]?=some (.cells #[ptr c] 74 (0,0)):=by
 have e:((w5.setCell ⟨r,o1,none⟩ v1).setCell ⟨p,o2,none⟩ v2).heap.size=w5.heap.size:=by simp [World.setCell]
 rw [hu.block w5.heap.size (by simp [World.setCell]) (by simp;omega)]
 show (((w5.setCell ⟨r,o1,none⟩ v1).setCell ⟨p,o2,none⟩ v2).heap.push _)[w5.heap.size]?=_
 rw [← e,Array.getElem?_push_size];rfl
set_option maxHeartbeats 400000 in
theorem group_quiet (r:Nat) (s:ByteArray) (i0:Nat) (a:Int) (d:Nat) (t:Int) (w:World) (h:RdAt w r s ⟨i0+1,0,a,d,t⟩) (hs:s.size≤200) (hi:i0+1≤s.size) (hd9:d≤8) (ht0:0≤t) (ht9:t≤9) (k:Nat) (hsub:ChoiceC k) (hk:(d:Int)+1=9 - (k:Int)) (hd8:¬ 8≤d) (q1:Sp.isAt s (i0+1) 63=true) (q2:Sp.isAt s (i0+1+1) 58=true) :
  Calls Tryz.prog 109 #[.pointer (some ⟨r,0,none⟩)] w (PartOut r s ⟨i0+1,0,a,d,t⟩ w (Sp.group (Sp.choice s k) s d ⟨i0,t⟩)):=by
 have hr:=h.lt
 have hrp:r≠w.heap.size:=by omega
 have HG:Hid (Sp.group (Sp.choice s k) s d ⟨i0,t⟩=match Sp.choice s k ⟨i0+1+1+1,t⟩ with | .error f=>.error f | .ok (tr,z)=>match Sp.need 41 s z.i with | .error f=>.error f | .ok j=>.ok (⟨gLab false 0,[tr]⟩,⟨j,z.t⟩)):=by show _=_;unfold Sp.group Sp.head;rw [if_neg hd8];simp [q1,Sp.need,q2];rfl
 obtain⟨c0,c1,c2,c3,c4,c5,fz⟩:=h.facts
 have hh:Hid (RdAt w r s ⟨i0+1,0,a,d,t⟩):=h
 have hpn:Hid (PtAt (w.alloc (.cells (((Tryz.zeroCells126.setIfInBounds 0 (.int .u8 40)).setIfInBounds 262 (.int .i64 (-1))).setIfInBounds 261 (.bool true)) 126)) w.heap.size _):=PtAt.new (((PtC.zero.set0 40).set262 (-1)).set261 true)
 clear h
 have Q1:Hid (Sp.isAt s (i0+1) 63=true):=q1
 have Q2:Hid (Sp.isAt s (i0+1+1) 58=true):=q2
 have hi1:i0+1+1+1≤s.size:=by simp [Sp.isAt] at q2;omega
 have hd1:Hid ((d:Int)+1=9 - (k:Int)):=hk
 have ht1:=ht0
 have ht2:=ht9
 clear q1 q2 hk
 go_enter Tryz.func109,Tryz.ntmps109
 go_wp2_with fail
 refine (is_any r s ⟨i0+1,0,a,d,t⟩ _ _ (by exact hh.out.alloc _) hs).mono ?_
 rw [isB_ok rfl,show Sp.isAt s _ 63=true from Q1.out]
 rintro e w1 ⟨rfl,hu1,hf1⟩
 have HF1:Hid (RdAt w1 r s ⟨i0+1+1,0,a,d,t⟩):=hf1
 have HP1:Hid (PtAt w1 w.heap.size _):=(hpn.out).upd hu1 (by simpa using hrp.symm)
 have HU1:Hid (Upd [r,w.heap.size] w w1):=((Upd.refl _ _).alloc _).trans hu1.one
 clear hu1 hf1
 obtain⟨p0,p1,p258,p259,p260,p261,p262,p263,pz⟩:=HP1.out.facts
 go_wp2_with fail
 refine (is_any r s ⟨i0+1+1,0,a,d,t⟩ _ _ (by exact HF1.out.other hrp _ _) hs).mono ?_
 rw [isB_ok rfl,show Sp.isAt s _ 58=true from Q2.out]
 rintro e w2 ⟨rfl,hu2,hf2⟩
 have HF2:Hid (RdAt w2 r s ⟨i0+1+1+1,0,a,d,t⟩):=hf2
 have HP2:Hid (PtAt w2 w.heap.size _):=(HP1.out.set261 false).upd hu2 (by simpa using hrp.symm)
 have HU2:Hid (Upd [r,w.heap.size] w w2):=(HU1.out.setCell (p:=⟨w.heap.size,261,none⟩) (by simp) _).trans hu2.one
 clear hu2 hf2
 clear p0 p1 p258 p259 p260 p261 p262 p263 pz
 clear c0 c1 c2 c3 c4 c5 fz
 obtain⟨c0,c1,c2,c3,c4,c5,fz⟩:=HF2.out.facts
 go_wp2_with fail
 refine (hsub r s ⟨i0+1+1+1,0,a,(d:Int)+1,t⟩ _ (by exact HF2.out.set4 ((d:Int)+1)) hs rfl (by exact hi1) (by exact hd1.out) (by exact ht1) (by exact ht2)).mono ?_
 rintro e w5 ⟨hu5,hq5⟩
 have HP5:Hid (PtAt w5 w.heap.size _):=(HP2.out.other hrp.symm 4 (.int .i64 ((d:Int)+1))).upd hu5 (by simpa using hrp.symm)
 have HU5:Hid (Upd [r,w.heap.size] w w5):=(HU2.out.setCell (p:=⟨r,4,none⟩) (by simp) _).trans hu5.one
 have hsz:Hid (w.heap.size < w2.heap.size):=HP2.out.lt
 clear hu5
 revert hq5
 cases hr5:Sp.choice s k ⟨i0+1+1+1,t⟩
 case error f=>
  obtain⟨e1,a1⟩:=f
  rintro ⟨he1,c,i',t',ps5,rfl,hc5,hp5,hf5⟩
  have HE1:Hid (e1≠0):=he1
  have HR:Hid (Sp.group (Sp.choice s k) s d ⟨i0,t⟩=.error (e1,a1)):=by show _=_;rw [HG.out,hr5]
  have HF5:Hid (RdAt w5 r s ⟨i',e1,a1,(d:Int)+1,t'⟩):=hf5
  clear hr5 hf5 he1
  clear c0 c1 c2 c3 c4 c5 fz
  obtain⟨c0,c1,c2,c3,c4,c5,fz⟩:=HF5.out.facts
  obtain⟨p0,p1,p258,p259,p260,p261,p262,p263,pz⟩:=HP5.out.facts
  unfold ptr
  have hpl5:w.heap.size < w5.heap.size:=HP5.out.lt
  have hrl5:r < w5.heap.size:=HF5.out.lt
  go_wp2_with fail
  refine (is_any r s ⟨i',e1,a1,(d:Int),t'⟩ _ _ (by exact ((HF5.out.set4 (d:Int)).other hrp 1 _).alloc _) hs).mono ?_
  rw [isB_err (by exact HE1.out)]
  rintro e w7 ⟨rfl,hu7,hf7⟩
  have HP7:Hid (PtAt w7 w.heap.size _):=(((HP5.out.other hrp.symm 4 _).set1 _).alloc _).upd hu7 (by simpa using hrp.symm)
  have HU7:Hid (Upd [r,w.heap.size] w w7):=(((HU5.out.setCell (p:=⟨r,4,none⟩) (by simp) _).setCell (p:=⟨w.heap.size,1,none⟩) (by simp) _).alloc _).trans hu7.one
  have HF7:Hid (RdAt w7 r s ⟨i',e1,a1,(d:Int),t'⟩):=hf7
  clear hu7 hf7 c0 c1 c2 c3 c4 c5 fz p0 p1 p258 p259 p260 p261 p262 p263 pz
  obtain⟨c0,c1,c2,c3,c4,c5,fz⟩:=HF7.out.facts
  go_wp2_with fail
  refine (fail_any r s ⟨i',e1,a1,(d:Int),t'⟩ _ _ _ (by exact HF7.out)).mono ?_
  rw [RS.fail_no (by exact HE1.out)]
  rintro e w8 ⟨rfl,hu8,hf8⟩
  have HP8:Hid (PtAt w8 w.heap.size _):=HP7.out.upd hu8 (by simpa using hrp.symm)
  have HU8:Hid (Upd [r,w.heap.size] w w8):=HU7.out.trans hu8.one
  clear hu8
  go_wp2_with fail
  go_ret
  exact group_no HR.out HE1.out HU8.out hf8 HP8.out
 case ok f=>
  obtain⟨tr,y⟩:=f
  rintro ⟨c,rfl,hc5,hf5⟩
  have HF5:Hid (RdAt w5 r s ⟨y.i,0,a,(d:Int)+1,y.t⟩):=hf5
  have HG':Hid (Sp.group (Sp.choice s k) s d ⟨i0,t⟩=match Sp.need 41 s y.i with | .error f=>.error f | .ok j=>.ok (⟨gLab false 0,[tr]⟩,⟨j,y.t⟩)):=by show _=_;rw [HG.out,hr5]
  have HC5:Hid (PartsAt w5 (fun k=>w.heap.size < k∧k < w5.heap.size) [c] [tr]):=PartsAt.mono _ _ _ _ hc5 (fun k hk hl=>by have:=hsz.out;simp at hk;exact⟨by omega,hl⟩)
  have hr5':r < w5.heap.size:=hf5.lt
  have hp5':w.heap.size < w5.heap.size:=HP5.out.lt
  clear hr5 hf5 hc5 c0 c1 c2 c3 c4 c5 fz
  obtain⟨c0,c1,c2,c3,c4,c5,fz⟩:=HF5.out.facts
  obtain⟨p0,p1,p258,p259,p260,p261,p262,p263,pz⟩:=HP5.out.facts
  unfold ptr
  go_wp2_with fail
  refine (is_any r s ⟨y.i,0,a,d,y.t⟩ _ _ (by exact ((HF5.out.set4 (d:Int)).other hrp 1 _).alloc _) hs).mono ?_
  rw [isB_ok rfl]
  rintro e w7 ⟨rfl,hu7,hf7⟩
  have HP7:Hid (PtAt w7 w.heap.size _):=(((HP5.out.other hrp.symm 4 _).set1 _).alloc _).upd hu7 (by simpa using hrp.symm)
  have HU7:Hid (Upd [r,w.heap.size] w w7):=(((HU5.out.setCell (p:=⟨r,4,none⟩) (by simp) _).setCell (p:=⟨w.heap.size,1,none⟩) (by simp) _).alloc _).trans hu7.one
  have HU57:Hid (Upd [r,w.heap.size] w5 w7):=((((Upd.refl _ _).setCell (p:=⟨r,4,none⟩) (by simp) _).setCell (p:=⟨w.heap.size,1,none⟩) (by simp) _).alloc _).trans hu7.one
  have HC7:Hid (PartsAt w7 (fun k=>w.heap.size < k∧k < w5.heap.size) [c] [tr]):=HC5.out.upd HU57.out (by simp;omega)
  have HG7:Hid (w7.heap[w5.heap.size]?=some (.cells #[ptr c] 74 (0,0))):=group_slot hu7 (by omega)
  clear hu7 c0 c1 c2 c3 c4 c5 fz p0 p1 p258 p259 p260 p261 p262 p263 pz
  cases hb:Sp.isAt s y.i 41
  case true=>
   have HR:Hid (Sp.group (Sp.choice s k) s d ⟨i0,t⟩=.ok (⟨gLab false 0,[tr]⟩,⟨y.i+1,y.t⟩)):=by show _=_;rw [HG'.out];simp [Sp.need,hb]
   have HF7:Hid (RdAt w7 r s ⟨y.i+1,0,a,d,y.t⟩):=by rw [hb] at hf7;exact hf7
   clear hb hf7
   go_wp2_with fail
   go_ret
   exact group_ok HR.out HU7.out HF7.out HP7.out hp5' HG7.out HC7.out
  case false=>
   have HR:Hid (Sp.group (Sp.choice s k) s d ⟨i0,t⟩=.error (3,y.i)):=by show _=_;rw [HG'.out];simp [Sp.need,hb]
   have HF7:Hid (RdAt w7 r s ⟨y.i,0,a,d,y.t⟩):=by rw [hb] at hf7;exact hf7
   clear hb hf7
   obtain⟨c0,c1,c2,c3,c4,c5,fz⟩:=HF7.out.facts
   go_wp2_with fail
   refine (fail_any r s ⟨y.i,0,a,d,y.t⟩ _ _ _ (by exact HF7.out)).mono ?_
   rw [RS.fail_ok rfl]
   rintro e w8 ⟨rfl,hu8,hf8⟩
   have HP8:Hid (PtAt w8 w.heap.size _):=HP7.out.upd hu8 (by simpa using hrp.symm)
   have HU8:Hid (Upd [r,w.heap.size] w w8):=HU7.out.trans hu8.one
   clear hu8
   go_wp2_with fail
   go_ret
   exact group_no HR.out (by decide) HU8.out hf8 HP8.out
set_option maxHeartbeats 400000 in
theorem group_told (r:Nat) (s:ByteArray) (i0:Nat) (a:Int) (d:Nat) (t:Int) (w:World) (h:RdAt w r s ⟨i0+1,0,a,d,t⟩) (hs:s.size≤200) (hi:i0+1≤s.size) (hd9:d≤8) (ht0:0≤t) (ht9:t≤9) (k:Nat) (hsub:ChoiceC k) (hk:(d:Int)+1=9 - (k:Int)) (hd8:¬ 8≤d) (q1:Sp.isAt s (i0+1) 63=false) (q2:¬ 9 < t+1) :
  Calls Tryz.prog 109 #[.pointer (some ⟨r,0,none⟩)] w (PartOut r s ⟨i0+1,0,a,d,t⟩ w (Sp.group (Sp.choice s k) s d ⟨i0,t⟩)):=by
 have hr:=h.lt
 have hrp:r≠w.heap.size:=by omega
 have HG:Hid (Sp.group (Sp.choice s k) s d ⟨i0,t⟩=match Sp.choice s k ⟨i0+1,t+1⟩ with | .error f=>.error f | .ok (tr,z)=>match Sp.need 41 s z.i with | .error f=>.error f | .ok j=>.ok (⟨gLab true (t+1).toNat,[tr]⟩,⟨j,z.t⟩)):=by show _=_;unfold Sp.group Sp.head;rw [if_neg hd8,if_neg (by simp [q1]),if_neg (show ¬ (9≤t) by omega)];simp only [decide_eq_true (show (t+1).toNat≠0 by omega)];rfl
 obtain⟨c0,c1,c2,c3,c4,c5,fz⟩:=h.facts
 have hh:Hid (RdAt w r s ⟨i0+1,0,a,d,t⟩):=h
 have hpn:Hid (PtAt (w.alloc (.cells (((Tryz.zeroCells126.setIfInBounds 0 (.int .u8 40)).setIfInBounds 262 (.int .i64 (-1))).setIfInBounds 261 (.bool true)) 126)) w.heap.size _):=PtAt.new (((PtC.zero.set0 40).set262 (-1)).set261 true)
 clear h
 have Q1:Hid (Sp.isAt s (i0+1) 63=false):=q1
 have hi1:i0+1≤s.size:=hi
 have hd1:Hid ((d:Int)+1=9 - (k:Int)):=hk
 have ht1:0≤t+1:=by omega
 have ht2:t+1≤9:=by omega
 clear q1 hk
 go_enter Tryz.func109,Tryz.ntmps109
 go_wp2_with fail
 refine (is_any r s ⟨i0+1,0,a,d,t⟩ _ _ (by exact hh.out.alloc _) hs).mono ?_
 rw [isB_ok rfl,show Sp.isAt s _ 63=false from Q1.out]
 rintro e w2 ⟨rfl,hu2,hf2⟩
 have HF2:Hid (RdAt w2 r s ⟨i0+1,0,a,d,t⟩):=hf2
 have HP2:Hid (PtAt w2 w.heap.size _):=(hpn.out).upd hu2 (by simpa using hrp.symm)
 have HU2:Hid (Upd [r,w.heap.size] w w2):=((Upd.refl _ _).alloc _).trans hu2.one
 clear hu2 hf2
 clear c0 c1 c2 c3 c4 c5 fz
 obtain⟨c0,c1,c2,c3,c4,c5,fz⟩:=HF2.out.facts
 have HF2':Hid (RdAt (w2.setCell ⟨r,5,none⟩ (.int .i64 (t+1))) r s ⟨i0+1,0,a,d,t+1⟩):=HF2.out.set5 _
 have HP2':Hid (PtAt (w2.setCell ⟨r,5,none⟩ (.int .i64 (t+1))) w.heap.size _):=HP2.out.other hrp.symm _ _
 have HU2':Hid (Upd [r,w.heap.size] w (w2.setCell ⟨r,5,none⟩ (.int .i64 (t+1)))):=HU2.out.setCell (by simp) _
 go_wp2_with fail
 refine (hsub r s ⟨i0+1,0,a,(d:Int)+1,t+1⟩ _ (by exact HF2'.out.set4 ((d:Int)+1)) hs rfl (by exact hi1) (by exact hd1.out) (by exact ht1) (by exact ht2)).mono ?_
 rintro e w5 ⟨hu5,hq5⟩
 have HP5:Hid (PtAt w5 w.heap.size _):=(HP2'.out.other hrp.symm 4 (.int .i64 ((d:Int)+1))).upd hu5 (by simpa using hrp.symm)
 have HU5:Hid (Upd [r,w.heap.size] w w5):=(HU2'.out.setCell (p:=⟨r,4,none⟩) (by simp) _).trans hu5.one
 have hsz:Hid (w.heap.size < w2.heap.size):=HP2.out.lt
 clear hu5
 revert hq5
 cases hr5:Sp.choice s k ⟨i0+1,t+1⟩
 case error f=>
  obtain⟨e1,a1⟩:=f
  rintro ⟨he1,c,i',t',ps5,rfl,hc5,hp5,hf5⟩
  have HE1:Hid (e1≠0):=he1
  have HR:Hid (Sp.group (Sp.choice s k) s d ⟨i0,t⟩=.error (e1,a1)):=by show _=_;rw [HG.out,hr5]
  have HF5:Hid (RdAt w5 r s ⟨i',e1,a1,(d:Int)+1,t'⟩):=hf5
  clear hr5 hf5 he1
  clear c0 c1 c2 c3 c4 c5 fz
  obtain⟨c0,c1,c2,c3,c4,c5,fz⟩:=HF5.out.facts
  obtain⟨p0,p1,p258,p259,p260,p261,p262,p263,pz⟩:=HP5.out.facts
  unfold ptr
  have hpl5:w.heap.size < w5.heap.size:=HP5.out.lt
  have hrl5:r < w5.heap.size:=HF5.out.lt
  go_wp2_with fail
  refine (is_any r s ⟨i',e1,a1,(d:Int),t'⟩ _ _ (by exact ((HF5.out.set4 (d:Int)).other hrp 1 _).alloc _) hs).mono ?_
  rw [isB_err (by exact HE1.out)]
  rintro e w7 ⟨rfl,hu7,hf7⟩
  have HP7:Hid (PtAt w7 w.heap.size _):=(((HP5.out.other hrp.symm 4 _).set1 _).alloc _).upd hu7 (by simpa using hrp.symm)
  have HU7:Hid (Upd [r,w.heap.size] w w7):=(((HU5.out.setCell (p:=⟨r,4,none⟩) (by simp) _).setCell (p:=⟨w.heap.size,1,none⟩) (by simp) _).alloc _).trans hu7.one
  have HF7:Hid (RdAt w7 r s ⟨i',e1,a1,(d:Int),t'⟩):=hf7
  clear hu7 hf7 c0 c1 c2 c3 c4 c5 fz p0 p1 p258 p259 p260 p261 p262 p263 pz
  obtain⟨c0,c1,c2,c3,c4,c5,fz⟩:=HF7.out.facts
  go_wp2_with fail
  refine (fail_any r s ⟨i',e1,a1,(d:Int),t'⟩ _ _ _ (by exact HF7.out)).mono ?_
  rw [RS.fail_no (by exact HE1.out)]
  rintro e w8 ⟨rfl,hu8,hf8⟩
  have HP8:Hid (PtAt w8 w.heap.size _):=HP7.out.upd hu8 (by simpa using hrp.symm)
  have HU8:Hid (Upd [r,w.heap.size] w w8):=HU7.out.trans hu8.one
  clear hu8
  go_wp2_with fail
  go_ret
  exact group_no HR.out HE1.out HU8.out hf8 HP8.out
 case ok f=>
  obtain⟨tr,y⟩:=f
  rintro ⟨c,rfl,hc5,hf5⟩
  have HF5:Hid (RdAt w5 r s ⟨y.i,0,a,(d:Int)+1,y.t⟩):=hf5
  have HG':Hid (Sp.group (Sp.choice s k) s d ⟨i0,t⟩=match Sp.need 41 s y.i with | .error f=>.error f | .ok j=>.ok (⟨gLab true (t+1).toNat,[tr]⟩,⟨j,y.t⟩)):=by show _=_;rw [HG.out,hr5]
  have HC5:Hid (PartsAt w5 (fun k=>w.heap.size < k∧k < w5.heap.size) [c] [tr]):=PartsAt.mono _ _ _ _ hc5 (fun k hk hl=>by have:=hsz.out;simp at hk;exact⟨by omega,hl⟩)
  have hr5':r < w5.heap.size:=hf5.lt
  have hp5':w.heap.size < w5.heap.size:=HP5.out.lt
  clear hr5 hf5 hc5 c0 c1 c2 c3 c4 c5 fz
  obtain⟨c0,c1,c2,c3,c4,c5,fz⟩:=HF5.out.facts
  obtain⟨p0,p1,p258,p259,p260,p261,p262,p263,pz⟩:=HP5.out.facts
  unfold ptr
  go_wp2_with fail
  refine (is_any r s ⟨y.i,0,a,d,y.t⟩ _ _ (by exact ((HF5.out.set4 (d:Int)).other hrp 1 _).alloc _) hs).mono ?_
  rw [isB_ok rfl]
  rintro e w7 ⟨rfl,hu7,hf7⟩
  have HP7:Hid (PtAt w7 w.heap.size _):=(((HP5.out.other hrp.symm 4 _).set1 _).alloc _).upd hu7 (by simpa using hrp.symm)
  have HU7:Hid (Upd [r,w.heap.size] w w7):=(((HU5.out.setCell (p:=⟨r,4,none⟩) (by simp) _).setCell (p:=⟨w.heap.size,1,none⟩) (by simp) _).alloc _).trans hu7.one
  have HU57:Hid (Upd [r,w.heap.size] w5 w7):=((((Upd.refl _ _).setCell (p:=⟨r,4,none⟩) (by simp) _).setCell (p:=⟨w.heap.size,1,none⟩) (by simp) _).alloc _).trans hu7.one
  have HC7:Hid (PartsAt w7 (fun k=>w.heap.size < k∧k < w5.heap.size) [c] [tr]):=HC5.out.upd HU57.out (by simp;omega)
  have HG7:Hid (w7.heap[w5.heap.size]?=some (.cells #[ptr c] 74 (0,0))):=group_slot hu7 (by omega)
  clear hu7 c0 c1 c2 c3 c4 c5 fz p0 p1 p258 p259 p260 p261 p262 p263 pz
  cases hb:Sp.isAt s y.i 41
  case true=>
   have HR:Hid (Sp.group (Sp.choice s k) s d ⟨i0,t⟩=.ok (⟨gLab true (t+1).toNat,[tr]⟩,⟨y.i+1,y.t⟩)):=by show _=_;rw [HG'.out];simp [Sp.need,hb]
   have HF7:Hid (RdAt w7 r s ⟨y.i+1,0,a,d,y.t⟩):=by rw [hb] at hf7;exact hf7
   clear hb hf7
   go_wp2_with fail
   go_ret
   exact group_ok HR.out HU7.out HF7.out HP7.out hp5' HG7.out HC7.out
  case false=>
   have HR:Hid (Sp.group (Sp.choice s k) s d ⟨i0,t⟩=.error (3,y.i)):=by show _=_;rw [HG'.out];simp [Sp.need,hb]
   have HF7:Hid (RdAt w7 r s ⟨y.i,0,a,d,y.t⟩):=by rw [hb] at hf7;exact hf7
   clear hb hf7
   obtain⟨c0,c1,c2,c3,c4,c5,fz⟩:=HF7.out.facts
   go_wp2_with fail
   refine (fail_any r s ⟨y.i,0,a,d,y.t⟩ _ _ _ (by exact HF7.out)).mono ?_
   rw [RS.fail_ok rfl]
   rintro e w8 ⟨rfl,hu8,hf8⟩
   have HP8:Hid (PtAt w8 w.heap.size _):=HP7.out.upd hu8 (by simpa using hrp.symm)
   have HU8:Hid (Upd [r,w.heap.size] w w8):=HU7.out.trans hu8.one
   clear hu8
   go_wp2_with fail
   go_ret
   exact group_no HR.out (by decide) HU8.out hf8 HP8.out
theorem group_any (r:Nat) (s:ByteArray) (i0:Nat) (a:Int) (d:Nat) (t:Int) (w:World) (h:RdAt w r s ⟨i0+1,0,a,d,t⟩) (hs:s.size≤200) (hi:i0+1≤s.size) (hd9:d≤8) (ht0:0≤t) (ht9:t≤9) (k:Nat) (hsub:d < 8→ChoiceC k) (hk:(d:Int)=8 - (k:Int)) :
  Calls Tryz.prog 109 #[.pointer (some ⟨r,0,none⟩)] w (PartOut r s ⟨i0+1,0,a,d,t⟩ w (Sp.group (Sp.choice s k) s d ⟨i0,t⟩)):=by
 by_cases hd8:8≤d
 ·exact group_deep r s i0 a d t w _ h hs hi hd9 ht0 ht9 hd8
 cases q1:Sp.isAt s (i0+1) 63 with
 | true=>
  cases q2:Sp.isAt s (i0+1+1) 58 with
  | true=>exact group_quiet r s i0 a d t w h hs hi hd9 ht0 ht9 k (hsub (by omega)) (by omega) hd8 q1 q2
  | false=>exact group_quiet_no r s i0 a d t w _ h hs hi hd9 ht0 ht9 hd8 q1 q2
 | false=>
  by_cases q2:9 < t+1
  ·exact group_many r s i0 a d t w _ h hs hi hd9 ht0 ht9 hd8 q1 q2
  ·exact group_told r s i0 a d t w h hs hi hd9 ht0 ht9 k (hsub (by omega)) (by omega) hd8 q1 q2
end Go.Proofs.YtcpfpnjkfahjcaaGreat
