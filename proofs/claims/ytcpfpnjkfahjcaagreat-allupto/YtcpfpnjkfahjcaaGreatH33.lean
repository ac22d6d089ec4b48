import Derived.Test.YtcpfpnjkfahjcaaGreatH32
import Derived.Test.YtcpfpnjkfahjcaaGreatH01
set_option linter.unusedSimpArgs false
set_option linter.unusedVariables false
namespace Go.Proofs.YtcpfpnjkfahjcaaGreat
open Go.RowKit
theorem Ones_nil:Ones []:=by unfold Ones;trivial
theorem Ones_cons (t:Tr) (r:List Tr):Ones (t::r)=((t.lab.kind=3→t.kids.length=1)∧Ones t.kids∧Ones r):=by obtain⟨a,ks⟩:=t;rw [Ones]
theorem Ones_append:∀ (l m:List Tr),Ones l→Ones m→Ones (l++m)
 | [],_,_,h=>h
 | t::r,m,h,k=>by
  rw [Ones_cons] at h
  show Ones (t::(r++m))
  rw [Ones_cons];exact⟨h.1,h.2.1,Ones_append r m h.2.2 k⟩
theorem Ones_one {a:Lab} {ks:List Tr} (h1:a.kind=3→ks.length=1) (h2:Ones ks):Ones [⟨a,ks⟩]:=by rw [Ones_cons];exact⟨h1,h2,Ones_nil⟩
namespace Sp
def OnesF (f:At→Res (Tr×At)):Prop:=∀ x t y,f x=.ok (t,y)→Ones [t]
theorem list_ones {s:ByteArray} {i j:Nat} {t:Tr} (h:list s i=.ok (t,j)):Ones [t]:=by
 unfold list at h
 simp only [] at h
 cases h1:items s (s.size+1) (fun _=>false) (if isAt s i 94=true then i+1 else i) with
 | error f=>simp [h1] at h
 | ok v=>
  obtain⟨set,k⟩:=v
  simp only [h1] at h
  cases h
  exact Ones_one (by simp) Ones_nil
theorem atom_ones {s:ByteArray} {d:Nat} {sub:At→Res (Tr×At)} (hs:OnesF sub) {x:At} {t:Tr} {y:At} (h:atom sub s d x=.ok (t,y)):Ones [t]:=by
 unfold atom at h
 by_cases c1:isAt s x.i 40=true
 ·rw [if_pos c1] at h
  unfold group at h
  cases hh:head s d x with
  | error f=>rw [hh] at h;cases h
  | ok v=>
   obtain⟨k,z⟩:=v
   rw [hh] at h
   cases hb:sub z with
   | error f=>simp [hb] at h
   | ok v=>
    obtain⟨t',u⟩:=v
    have b:=hs z t' u hb
    cases hn:need 41 s u.i with
    | error f=>simp [hb,hn] at h
    | ok j=>
     simp [hb,hn] at h;obtain⟨rfl,rfl⟩:=h
     exact Ones_one (by simp) b
 rw [if_neg c1] at h
 by_cases c2:isAt s x.i 91=true
 ·rw [if_pos c2] at h
  cases h1:list s (x.i+1) with
  | error f=>simp [h1] at h
  | ok v=>obtain⟨t',j⟩:=v;simp [h1] at h;obtain⟨rfl,rfl⟩:=h;exact list_ones h1
 rw [if_neg c2] at h
 by_cases c3:isAt s x.i 46=true
 ·rw [if_pos c3] at h;cases h
  exact Ones_one (by simp) Ones_nil
 rw [if_neg c3] at h
 cases h1:byteBut false s x.i with
 | error f=>simp [h1] at h
 | ok v=>
  obtain⟨b,j⟩:=v
  simp [h1] at h;obtain⟨rfl,rfl⟩:=h
  exact Ones_one (by simp) Ones_nil
theorem part_ones {s:ByteArray} {d:Nat} {sub:At→Res (Tr×At)} (hs:OnesF sub) {x:At} {t:Tr} {y:At} (h:part sub s d x=.ok (t,y)):Ones [t]:=by
 unfold part at h
 cases h1:atom sub s d x with
 | error f=>simp [h1] at h
 | ok v=>
  obtain⟨t',z⟩:=v
  have g:=atom_ones hs h1
  rw [Ones_cons] at g
  cases h2:count s z.i with
  | error f=>simp [h1,h2] at h
  | ok v=>
   obtain⟨m,n,j⟩:=v
   simp [h1,h2] at h;obtain⟨rfl,rfl⟩:=h
   exact Ones_one g.1 g.2.1
theorem parts_ones {s:ByteArray} {d:Nat} {sub:At→Res (Tr×At)} (hs:OnesF sub):∀ {n:Nat} {l:List Tr} {x:At} {l':List Tr} {y:At},parts sub s d n l x=.ok (l',y)→Ones l→Ones l'
 | 0,_,_,_,_,h,_=>by cases h
 | n+1,l,x,l',y,h,hl=>by
  unfold parts at h
  split at h
  ·cases h;exact hl
  ·cases h1:part sub s d x with
   | error f=>simp [h1] at h
   | ok v=>
    obtain⟨t',z⟩:=v
    simp only [h1] at h
    exact parts_ones hs h (Ones_append _ _ hl (part_ones hs h1))
theorem row_ones {s:ByteArray} {d:Nat} {sub:At→Res (Tr×At)} (hs:OnesF sub):OnesF (row sub s d):=by
 intro x t y h
 unfold row at h
 cases h1:parts sub s d (s.size+1) [] x with
 | error f=>simp [h1] at h
 | ok v=>
  obtain⟨l,z⟩:=v
  simp [h1] at h;obtain⟨rfl,rfl⟩:=h
  exact Ones_one (by simp) (parts_ones hs h1 Ones_nil)
theorem rows_ones {s:ByteArray} {d:Nat} {sub:At→Res (Tr×At)} (hs:OnesF sub):∀ {n:Nat} {l:List Tr} {x:At} {l':List Tr} {y:At},rows sub s d n l x=.ok (l',y)→Ones l→Ones l'
 | 0,_,_,_,_,h,_=>by cases h
 | n+1,l,x,l',y,h,hl=>by
  unfold rows at h
  cases h1:row sub s d x with
  | error f=>simp [h1] at h
  | ok v=>
   obtain⟨t',z⟩:=v
   have m:=row_ones hs x t' z h1
   simp only [h1] at h
   split at h
   ·exact rows_ones hs h (Ones_append _ _ hl m)
   ·cases h;exact Ones_append _ _ hl m
theorem choice_ones (s:ByteArray):∀ k,OnesF (choice s k)
 | 0=>by intro x t y h;cases h
 | k+1=>by
  intro x t y h
  unfold choice at h
  cases h1:rows (choice s k) s (8 - k) (s.size+1) [] x with
  | error f=>simp [h1] at h
  | ok v=>
   obtain⟨l,z⟩:=v
   simp [h1] at h;obtain⟨rfl,rfl⟩:=h
   exact Ones_one (by simp) (rows_ones (choice_ones s k) h1 Ones_nil)
theorem read_ones {s:ByteArray} {t:Tr} {n:Int} (h:read s=.ok (t,n)):Ones [t]:=by
 unfold read at h
 split at h
 ·cases h
 ·cases h1:choice s 9 ⟨0,0⟩ with
  | error f=>simp [h1] at h
  | ok v=>
   obtain⟨t',y⟩:=v
   simp only [h1] at h
   split at h
   ·cases h
   ·split at h
    ·cases h
    ·cases h;exact choice_ones s 9 _ _ _ h1
end Sp
def CompileOut (s:ByteArray) (w:World) (e:Ending) (w':World):Prop:=Upd [] w w'∧match Sp.read s with
 | .ok (t,_)=>∃ p,e=.returned (.tuple #[.pointer (some ⟨p,0,none⟩),.int .i64 0,.int .i64 0])∧w.heap.size≤p∧CpAt w' p (Sp.comp t ⟨[],0⟩).1 (Sp.comp t ⟨[],0⟩).2
 | .error (e1,a1)=>e=.returned (.tuple #[.pointer none,.int .i64 e1,.int .i64 a1])
theorem CpAt.setTop {w:World} {p:Nat} {c:Sp.Cp} {top:Int} (h:CpAt w p c top) (z:Int):CpAt (w.setCell ⟨p,1,none⟩ (.int .i64 z)) p c z:=by
 obtain⟨v,h2⟩:=h
 exact⟨v,⟨heap_set h2.block 1 _,ownsRow_same h2.own (fun g hg _=>Below.heap_setCell _ _ _ _ (by have:=(ownBlock_lt h2.own hg).2;simp;omega))⟩⟩
theorem CpAt.cells {w:World} {p:Nat} {c:Sp.Cp} {top:Int} (h:CpAt w p c top):w.cell? ⟨p,1,none⟩=some (.int .i64 top)∧∀ o,w.frozen? ⟨p,o,none⟩=false:=by
 obtain⟨v,h2⟩:=h
 exact⟨by simp [World.cell?,h2.block],fun o=>by simp [World.frozen?,h2.block]⟩
theorem CpAt.start (w:World):CpAt (w.alloc (.cells #[.slice none 0 0,.int .i64 0,.int .i64 0] 82)) w.heap.size ⟨[],0⟩ 0:=
 ⟨.slice none 0 0,⟨by show (w.heap.push _)[w.heap.size]?=_;simp,⟨by simp,Or.inl ⟨rfl,rfl⟩⟩⟩⟩
theorem Bel.start (w:World) (T:TypeId):Bel w.heap.size w (w.alloc (.cells #[.slice none 0 0,.int .i64 0,.int .i64 0] T)):=by
 have hk:∀ k,k < w.heap.size→(w.alloc (.cells #[.slice none 0 0,.int .i64 0,.int .i64 0] T)).heap[k]?=w.heap[k]?:=fun k hk=>Below.heap_alloc _ _ _ hk
 refine⟨rfl,rfl,rfl,by simp,fun k _ h=>hk k h,fun k h _ _=>hk k h,Or.inl ?_⟩
 have h1:w.heap[w.heap.size]?=none:=Array.getElem?_eq_none (Nat.le_refl _)
 have h2:(w.alloc (.cells #[.slice none 0 0,.int .i64 0,.int .i64 0] T)).heap[w.heap.size]?=some (.cells #[.slice none 0 0,.int .i64 0,.int .i64 0] T (0,0)):=by show (w.heap.push _)[w.heap.size]?=_;simp
 unfold ownB;rw [h1,h2];rfl
theorem Upd.of_bel {w w':World} (h:Bel w.heap.size w w') (u:Value):Upd [] w (w'.setCell ⟨w.heap.size,1,none⟩ u):=
 ⟨h.os,h.tape,h.output,by have:=h.size;simp [World.setCell];omega,fun k hk _=>by rw [Below.heap_setCell _ _ _ _ (by simp;omega)];exact h.block k hk hk⟩
set_option maxHeartbeats 400000 in
theorem refCompile (s:ByteArray) (w:World) :
  Calls Tryz.prog 7 #[.string s] w (CompileOut s w):=by
 go_enter Tryz.func7,Tryz.ntmps7
 go_wp2_with fail
 refine (read_any s _).mono ?_
 rintro e w2 ⟨hu2,hq2⟩
 have HU2:Hid (Upd [] w w2):=hu2
 clear hu2
 revert hq2
 cases hr:Sp.read s
 case error f=>
  obtain⟨e1,a1⟩:=f
  rintro ⟨he1,pv,r,x,rfl,hf,rfl,rfl,_⟩
  have HR:Hid (Sp.read s=.error (x.e,x.a)):=hr
  have hb:(x.e != 0)=true:=by simpa using he1
  obtain⟨c0,c1,c2,c3,c4,c5,fz⟩:=hf.facts
  clear he1 hr hf
  unfold ptr
  go_wp2_with fail
  go_quiet (fail)
  go_wp2_with fail
  go_ret3
  exact⟨HU2.out.drewN,by rw [HR.out];exact tup3 rfl rfl rfl⟩
 case ok f=>
  obtain⟨t,n⟩:=f
  rintro ⟨p,r,x,rfl,hp,hm,hf,he,hn,_⟩
  have HR:Hid (Sp.read s=.ok (t,n)):=hr
  have hb:(x.e != 0)=false:=by simp [he]
  have hbd:=Sp.comp_most hm.1 (by have:=Sp.read_nods hr;omega)
  have HC:Hid (∀ W:World,Bel w2.heap.size w2 W→CpAt W w2.heap.size ⟨[],0⟩ 0→Calls Tryz.prog 24 #[.pointer (some ⟨w2.heap.size,0,none⟩),.pointer (some ⟨p,0,none⟩)] W (RCompOut w2.heap.size (Sp.comp t ⟨[],0⟩) 0 W)):=fun W hW hc=>
   comp_all w2.heap.size w2 [t] _ [p] hp (fun k _ hk=>hk) hm.1 hm.2 (Sp.read_ones hr) 0 p t rfl rfl W ⟨[],0⟩ 0 hW hc (by omega) (by simp) (by omega)
  obtain⟨c0,c1,c2,c3,c4,c5,fz⟩:=hf.facts
  clear he hr hf hp hm hn hbd
  unfold ptr
  go_wp2_with fail
  refine (HC.out _ (Bel.start w2 _) (CpAt.start w2)).mono ?_
  rintro e w3 ⟨rfl,hc3,hb3⟩
  have HB3:Hid (Bel w2.heap.size w2 w3):=(Bel.start w2 _).trans hb3
  have HC3:Hid (CpAt w3 w2.heap.size (Sp.comp t ⟨[],0⟩).1 0):=hc3
  have t1:=hc3.cells.1
  have tz:=hc3.cells.2
  clear hc3 hb3 HC
  go_wp2_with fail
  go_ret3
  exact⟨HU2.out.trans (Upd.of_bel HB3.out _),by rw [HR.out];exact⟨_,tup3 rfl rfl rfl,HU2.out.size,HC3.out.setTop _⟩⟩
namespace Sp
def told1 (a:Lab):Int:=if a.kind=3∧a.told=true then 1 else 0
def tolds:List Tr→Int
 | []=>0
 | ⟨a,ks⟩::r=>(if a.kind≤2 then 0 else told1 a+tolds ks)+tolds r
theorem tolds_nil:tolds []=0:=by rw [tolds]
theorem tolds_cons (a:Lab) (ks r:List Tr):tolds (⟨a,ks⟩::r)=(if a.kind≤2 then 0 else told1 a+tolds ks)+tolds r:=by rw [tolds]
theorem tolds_one (a:Lab) (ks:List Tr):tolds [⟨a,ks⟩]=(if a.kind≤2 then 0 else told1 a+tolds ks):=by rw [tolds_cons,tolds_nil,Int.add_zero]
theorem tolds_append:∀ (l m:List Tr),tolds (l++m)=tolds l+tolds m
 | [],m=>by rw [tolds_nil];simp
 | ⟨a,ks⟩::r,m=>by rw [List.cons_append,tolds_cons,tolds_cons,tolds_append r m];omega
theorem told1_ge (a:Lab):0≤told1 a:=by unfold told1;split<;>omega
theorem tolds_ge:∀ (l:List Tr),0≤tolds l
 | []=>by rw [tolds_nil];omega
 | ⟨a,ks⟩::r=>by
  rw [tolds_cons];have:=tolds_ge ks;have:=tolds_ge r;have:=told1_ge a;split<;>omega
theorem open1_eq (a:Lab) (c:Cp):(open1 a c).told=c.told+told1 a:=by
 unfold open1 told1;split<;>simp
theorem comps_told_eq:∀ (l:List Tr) (c:Cp),(comps l c).1.told=c.told+tolds l
 | [],c=>by rw [comps_nil,tolds_nil];simp
 | ⟨a,ks⟩::r,c=>by
  rw [comps_cons,tolds_cons]
  show (comps r (comp ⟨a,ks⟩ c).1).1.told=_
  rw [comps_told_eq r]
  have h4:(comp ⟨a,ks⟩ c).1.told=(bareEnd a c (comps ks (open1 a c))).1.told:=by unfold comp bare;rw [wrap_told]
  have h5:(bareEnd a c (comps ks (open1 a c))).1.told=if a.kind≤2 then c.told else (comps ks (open1 a c)).1.told:=by
   unfold bareEnd;repeat' split
   ·rw [Cp.add_told]
   ·rw [Cp.add_told]
   ·rw [pick_told]
   ·rw [chain_told,Cp.add_told]
  rw [h4,h5]
  have h6:=comps_told_eq ks (open1 a c)
  rw [open1_eq] at h6
  split<;>omega
theorem comp_told_eq (t:Tr) (c:Cp):(comp t c).1.told=c.told+tolds [t]:=by
 have h:=comps_told_eq [t] c
 rw [comps_cons,comps_nil] at h;exact h
def TF (f:At→Res (Tr×At)):Prop:=∀ x t y,f x=.ok (t,y)→0≤x.t→y.t=x.t+tolds [t]
theorem rhead_told {s:ByteArray} {d:Nat} {x:At} {k:Nat} {y:At} (h:head s d x=.ok (k,y)) (h0:0≤x.t):y.t=x.t+(if k≠0 then 1 else 0):=by
 unfold head at h
 split at h
 ·cases h
 ·split at h
  ·cases h1:need 58 s (x.i+2) with
   | error f=>simp [h1] at h
   | ok j=>simp [h1] at h;obtain⟨rfl,rfl⟩:=h;simp
  ·split at h
   ·cases h
   ·cases h
    rw [if_pos (by omega)]
theorem list_told {s:ByteArray} {i j:Nat} {t:Tr} (h:list s i=.ok (t,j)):tolds [t]=0:=by
 unfold list at h
 simp only [] at h
 cases h1:items s (s.size+1) (fun _=>false) (if isAt s i 94=true then i+1 else i) with
 | error f=>simp [h1] at h
 | ok v=>
  obtain⟨set,k⟩:=v
  simp only [h1] at h
  cases h
  rw [tolds_one,if_pos (by simp)]
theorem atom_told {s:ByteArray} {d:Nat} {sub:At→Res (Tr×At)} (hs:TF sub) {x:At} {t:Tr} {y:At} (h:atom sub s d x=.ok (t,y)) (h0:0≤x.t):y.t=x.t+tolds [t]:=by
 unfold atom at h
 by_cases c1:isAt s x.i 40=true
 ·rw [if_pos c1] at h
  unfold group at h
  cases hh:head s d x with
  | error f=>rw [hh] at h;cases h
  | ok v=>
   obtain⟨k,z⟩:=v
   rw [hh] at h
   have a:=rhead_told hh h0
   cases hb:sub z with
   | error f=>simp [hb] at h
   | ok v=>
    obtain⟨t',u⟩:=v
    have b:=hs z t' u hb (by split at a<;>omega)
    cases hn:need 41 s u.i with
    | error f=>simp [hb,hn] at h
    | ok j=>
     simp [hb,hn] at h;obtain⟨rfl,rfl⟩:=h
     rw [tolds_one,if_neg (by simp)]
     have e:told1 { blank with kind:=3,told:=!decide (k=0),num:=k }=if k≠0 then 1 else 0:=by
      unfold told1;by_cases hk:k=0<;>simp [hk]
     have q:u.t=x.t+((if k≠0 then 1 else 0)+tolds [t']):=by rw [b,a];omega
     exact q.trans (congrArg (fun q=>x.t+(q+tolds [t'])) e).symm
 rw [if_neg c1] at h
 by_cases c2:isAt s x.i 91=true
 ·rw [if_pos c2] at h
  cases h1:list s (x.i+1) with
  | error f=>simp [h1] at h
  | ok v=>obtain⟨t',j⟩:=v;simp [h1] at h;obtain⟨rfl,rfl⟩:=h;rw [list_told h1];simp
 rw [if_neg c2] at h
 by_cases c3:isAt s x.i 46=true
 ·rw [if_pos c3] at h;cases h
  rw [tolds_one,if_pos (by simp)];simp
 rw [if_neg c3] at h
 cases h1:byteBut false s x.i with
 | error f=>simp [h1] at h
 | ok v=>
  obtain⟨b,j⟩:=v
  simp [h1] at h;obtain⟨rfl,rfl⟩:=h
  rw [tolds_one,if_pos (by simp)];simp
theorem part_told {s:ByteArray} {d:Nat} {sub:At→Res (Tr×At)} (hs:TF sub) {x:At} {t:Tr} {y:At} (h:part sub s d x=.ok (t,y)) (h0:0≤x.t):y.t=x.t+tolds [t]:=by
 unfold part at h
 cases h1:atom sub s d x with
 | error f=>simp [h1] at h
 | ok v=>
  obtain⟨⟨a',ks'⟩,z⟩:=v
  have g:=atom_told hs h1 h0
  cases h2:count s z.i with
  | error f=>simp [h1,h2] at h
  | ok v=>
   obtain⟨m,n,j⟩:=v
   simp [h1,h2] at h;obtain⟨rfl,rfl⟩:=h
   rw [tolds_one] at g ⊢
   exact g
theorem parts_told {s:ByteArray} {d:Nat} {sub:At→Res (Tr×At)} (hs:TF sub):∀ {n:Nat} {l:List Tr} {x:At} {l':List Tr} {y:At},parts sub s d n l x=.ok (l',y)→0≤x.t→y.t+tolds l=x.t+tolds l'
 | 0,_,_,_,_,h,_=>by cases h
 | n+1,l,x,l',y,h,h0=>by
  unfold parts at h
  split at h
  ·cases h;rfl
  ·cases h1:part sub s d x with
   | error f=>simp [h1] at h
   | ok v=>
    obtain⟨t',z⟩:=v
    have g:=part_told hs h1 h0
    have g2:=tolds_ge [t']
    simp only [h1] at h
    have r:=parts_told hs h (by omega)
    rw [tolds_append] at r;omega
theorem row_told {s:ByteArray} {d:Nat} {sub:At→Res (Tr×At)} (hs:TF sub):TF (row sub s d):=by
 intro x t y h h0
 unfold row at h
 cases h1:parts sub s d (s.size+1) [] x with
 | error f=>simp [h1] at h
 | ok v=>
  obtain⟨l,z⟩:=v
  simp [h1] at h;obtain⟨rfl,rfl⟩:=h
  have a:=parts_told hs h1 h0
  rw [tolds_nil] at a
  rw [tolds_one,if_neg (by simp)]
  unfold told1;simp;omega
theorem rows_told {s:ByteArray} {d:Nat} {sub:At→Res (Tr×At)} (hs:TF sub):∀ {n:Nat} {l:List Tr} {x:At} {l':List Tr} {y:At},rows sub s d n l x=.ok (l',y)→0≤x.t→y.t+tolds l=x.t+tolds l'
 | 0,_,_,_,_,h,_=>by cases h
 | n+1,l,x,l',y,h,h0=>by
  unfold rows at h
  cases h1:row sub s d x with
  | error f=>simp [h1] at h
  | ok v=>
   obtain⟨t',z⟩:=v
   have m:=row_told hs x t' z h1 h0
   have g2:=tolds_ge [t']
   simp only [h1] at h
   split at h
   ·have r:=rows_told hs h (by show 0≤z.t;omega)
    rw [tolds_append] at r
    have r':y.t+(tolds l+tolds [t'])=z.t+tolds l':=r
    omega
   ·cases h;rw [tolds_append];omega
theorem choice_told (s:ByteArray):∀ k,TF (choice s k)
 | 0=>by intro x t y h;cases h
 | k+1=>by
  intro x t y h h0
  unfold choice at h
  cases h1:rows (choice s k) s (8 - k) (s.size+1) [] x with
  | error f=>simp [h1] at h
  | ok v=>
   obtain⟨l,z⟩:=v
   simp [h1] at h;obtain⟨rfl,rfl⟩:=h
   have a:=rows_told (choice_told s k) h1 h0
   rw [tolds_nil] at a
   rw [tolds_one,if_neg (by simp)]
   unfold told1;simp;omega
theorem read_told {s:ByteArray} {t:Tr} {n:Int} (h:read s=.ok (t,n)):(comp t ⟨[],0⟩).1.told=n:=by
 unfold read at h
 split at h
 ·cases h
 ·cases h1:choice s 9 ⟨0,0⟩ with
  | error f=>simp [h1] at h
  | ok v=>
   obtain⟨t',y⟩:=v
   simp only [h1] at h
   split at h
   ·cases h
   ·split at h
    ·cases h
    ·cases h
     have:=choice_told s 9 _ _ _ h1 (by simp)
     rw [comp_told_eq]
     show 0+tolds [t]=y.t
     rw [this]
end Sp
end Go.Proofs.YtcpfpnjkfahjcaaGreat
