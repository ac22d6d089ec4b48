import Derived.Test.YtcpfpnjkfahjcaaGreatH01
set_option linter.unusedSimpArgs false
set_option linter.unusedVariables false
namespace Go.Proofs.YtcpfpnjkfahjcaaGreat
open Go.RowKit
set_option maxHeartbeats 400000 in
theorem hex_any (c:Int) (w:World) (h0:0≤c) (h1:c≤255) :
  Calls Tryz.prog 120 #[.int .u8 c] w fun e w'=>e=.returned (.int .i64 (Sp.hex c))∧w'=w:=by
 go_enter Tryz.func120,Tryz.ntmps120
 go_wp2
 all_goals
  go_ret
  exact⟨ret_int (by unfold Sp.hex;(repeat' split)<;>omega),rfl⟩
def RS.fail (x:RS) (e a:Int):RS:=if x.e=0 then { x with e:=e,a:=a } else x
theorem RS.fail_ok {x:RS} (h:x.e=0) (e a:Int):x.fail e a={ x with e:=e,a:=a }:=if_pos h
theorem RS.fail_no {x:RS} (h:x.e≠0) (e a:Int):x.fail e a=x:=if_neg h
def rdCells (s:ByteArray) (x:RS):Array Value:=#[.string s,.int .i64 x.i,.int .i64 x.e,.int .i64 x.a,.int .i64 x.d,.int .i64 x.t,.slice none 0 0,.slice none 0 0]
def RdAt (w:World) (r:Nat) (s:ByteArray) (x:RS):Prop:=w.heap[r]?=some (.cells (rdCells s x) 80 (0,0))
structure RdFacts (w:World) (r:Nat) (s:ByteArray) (x:RS):Prop where
 c0:w.cell? ⟨r,0,none⟩=some (.string s)
 c1:w.cell? ⟨r,1,none⟩=some (.int .i64 x.i)
 c2:w.cell? ⟨r,2,none⟩=some (.int .i64 x.e)
 c3:w.cell? ⟨r,3,none⟩=some (.int .i64 x.a)
 c4:w.cell? ⟨r,4,none⟩=some (.int .i64 x.d)
 c5:w.cell? ⟨r,5,none⟩=some (.int .i64 x.t)
 fz:∀ o,w.frozen? ⟨r,o,none⟩=false
theorem RdAt.facts {w:World} {r:Nat} {s:ByteArray} {x:RS} (h:RdAt w r s x):RdFacts w r s x:=by
 unfold RdAt rdCells at h
 refine⟨?_,?_,?_,?_,?_,?_,?_⟩<;>(try intro o)<;>simp [World.cell?,World.frozen?,h]
theorem RdAt.upd {l:List Nat} {w w':World} {r:Nat} {s:ByteArray} {x:RS} (h:RdAt w r s x) (u:Upd l w w') (hr:r∉l):RdAt w' r s x:=by
 unfold RdAt at *
 rw [u.block r ?_ hr];exact h
 rcases Nat.lt_or_ge r w.heap.size with h1|h1
 ·exact h1
 ·rw [Array.getElem?_eq_none h1] at h;cases h
theorem RdAt.set1 {w:World} {r:Nat} {s:ByteArray} {x:RS} (h:RdAt w r s x) (v:Nat):RdAt (w.setCell ⟨r,1,none⟩ (.int .i64 v)) r s { x with i:=v }:=heap_set h 1 _
theorem RdAt.set2 {w:World} {r:Nat} {s:ByteArray} {x:RS} (h:RdAt w r s x) (v:Int):RdAt (w.setCell ⟨r,2,none⟩ (.int .i64 v)) r s { x with e:=v }:=heap_set h 2 _
theorem RdAt.set3 {w:World} {r:Nat} {s:ByteArray} {x:RS} (h:RdAt w r s x) (v:Int):RdAt (w.setCell ⟨r,3,none⟩ (.int .i64 v)) r s { x with a:=v }:=heap_set h 3 _
theorem RdAt.set4 {w:World} {r:Nat} {s:ByteArray} {x:RS} (h:RdAt w r s x) (v:Int):RdAt (w.setCell ⟨r,4,none⟩ (.int .i64 v)) r s { x with d:=v }:=heap_set h 4 _
theorem RdAt.set5 {w:World} {r:Nat} {s:ByteArray} {x:RS} (h:RdAt w r s x) (v:Int):RdAt (w.setCell ⟨r,5,none⟩ (.int .i64 v)) r s { x with t:=v }:=heap_set h 5 _
set_option maxHeartbeats 400000 in
theorem fail_any (r:Nat) (s:ByteArray) (x:RS) (e at':Int) (w:World) (h:RdAt w r s x) :
  Calls Tryz.prog 42 #[.pointer (some ⟨r,0,none⟩),.int .i64 e,.int .i64 at'] w fun k w'=>k=.returned (.tuple #[])∧Upd [r] w w'∧RdAt w' r s (x.fail e at'):=by
 obtain⟨c0,c1,c2,c3,c4,c5,fz⟩:=h.facts
 have hh:Hid (RdAt w r s x):=h
 clear h
 by_cases he:x.e=0
 ·have hb:(x.e == 0)=true:=by simp [he]
  go_enter Tryz.func42,Tryz.ntmps42
  go_wp2
  go_end0
  exact⟨rfl,((Upd.refl _ _).setCell (by simp) _).setCell (by simp) _,by rw [RS.fail_ok he];exact (hh.out.set2 e).set3 at'⟩
 ·have hb:(x.e == 0)=false:=by simp [he]
  go_enter Tryz.func42,Tryz.ntmps42
  go_wp2
  go_end0
  exact⟨rfl,Upd.refl _ _,by rw [RS.fail_no he];exact hh.out⟩
def atB (s:ByteArray) (x:RS):Bool:=decide (x.e=0) && decide (x.i < s.size)
def atV (s:ByteArray) (x:RS):Int:=if atB s x then Sp.byteAt s x.i else 0
set_option maxHeartbeats 400000 in
theorem at_any (r:Nat) (s:ByteArray) (x:RS) (w:World) (h:RdAt w r s x) (_hs:s.size≤200) :
  Calls Tryz.prog 87 #[.pointer (some ⟨r,0,none⟩)] w fun k w'=>k=.returned (.tuple #[.int .u8 (atV s x),.bool (atB s x)])∧∃ n,w'=w.drewN n:=by
 obtain⟨c0,c1,c2,c3,c4,c5,fz⟩:=h.facts
 clear h
 by_cases he:x.e=0
 ·have hb:(x.e != 0)=false:=by simp [he]
  by_cases hi:x.i < s.size
  ·have hd:decide ((s.size:Int)≤x.i)=false:=by simp;omega
   go_enter Tryz.func87,Tryz.ntmps87
   go_wp2
   go_quiet (fail)
   go_wp2
   go_quiet (fail)
   go_wp2
   go_ret2
   exact⟨tup2 (int_eq (by simp [atV,atB,he,hi,Sp.byteAt_in])) (bool_eq (by simp [atB,he,hi])),_,World.drewN_drewN _ _ _⟩
  ·have hd:decide ((s.size:Int)≤x.i)=true:=by simp;omega
   go_enter Tryz.func87,Tryz.ntmps87
   go_wp2
   go_quiet (fail)
   go_wp2
   go_ret2
   exact⟨tup2 (int_eq (by simp [atV,atB,hi])) (bool_eq (by simp [atB,hi])),_,rfl⟩
 ·have hb:(x.e != 0)=true:=by simp [he]
  go_enter Tryz.func87,Tryz.ntmps87
  go_wp2
  go_quiet (fail)
  go_wp2
  go_ret2
  exact⟨tup2 (int_eq (by simp [atV,atB,he])) (bool_eq (by simp [atB,he])),_,rfl⟩
theorem RdAt.drewN {w:World} {r:Nat} {s:ByteArray} {x:RS} (h:RdAt w r s x) (n:Nat):RdAt (w.drewN n) r s x:=h
def isB (s:ByteArray) (x:RS) (c:Int):Bool:=decide (x.e=0) && Sp.isAt s x.i c
theorem atB_at {s:ByteArray} {x:RS} (h:atB s x=true):x.e=0∧x.i < s.size:=by simp [atB] at h;exact h
theorem isB_eq (s:ByteArray) (x:RS) (c:Int):isB s x c=(atB s x && decide (atV s x=c)):=by
 unfold isB atV
 by_cases h:atB s x=true
 ·have:=atB_at h;rw [if_pos h];simp [h,Sp.isAt,this]
 ·rw [if_neg h];simp at h;rw [h];simp [atB] at h
  by_cases he:x.e=0
  ·have:=h he;simp [Sp.isAt];omega
  ·simp [he]
set_option maxHeartbeats 400000 in
theorem is_any (r:Nat) (s:ByteArray) (x:RS) (c:Int) (w:World) (h:RdAt w r s x) (hs:s.size≤200) :
  Calls Tryz.prog 64 #[.pointer (some ⟨r,0,none⟩),.int .u8 c] w fun k w'=>k=.returned (.bool (isB s x c))∧Upd [r] w w'∧RdAt w' r s (x.adv (isB s x c)):=by
 obtain⟨c0,c1,c2,c3,c4,c5,fz⟩:=h.facts
 have hh:Hid (RdAt w r s x):=h
 clear h
 by_cases ha:atB s x=true
 ·have hi:x.i < s.size:=(atB_at ha).2
  by_cases hv:atV s x=c
  ·have hv':(atV s x != c)=false:=by simp [hv]
   have HV:Hid (isB s x c=true):=by show _=_;rw [isB_eq];simp [hv,ha]
   clear hv
   go_enter Tryz.func64,Tryz.ntmps64
   go_wp2_with fail
   refine (at_any r s x _ hh.out hs).mono ?_
   rintro e w' ⟨rfl,n,rfl⟩
   go_wp2
   go_ret
   exact⟨ret_bool HV.out.symm,(drewN_upd _ _ _).setCell (by simp) _,by rw [HV.out];exact (hh.out.drewN n).set1 (x.i+1)⟩
  ·have hv':(atV s x != c)=true:=by simp [hv]
   have HV:Hid (isB s x c=false):=by show _=_;rw [isB_eq];simp [hv]
   clear hv
   go_enter Tryz.func64,Tryz.ntmps64
   go_wp2_with fail
   refine (at_any r s x _ hh.out hs).mono ?_
   rintro e w' ⟨rfl,n,rfl⟩
   go_wp2
   go_ret
   exact⟨ret_bool HV.out.symm,drewN_upd _ _ _,by rw [HV.out];exact hh.out.drewN n⟩
 ·have ha:atB s x=false:=by simpa using ha
  have HV:Hid (isB s x c=false):=by show _=_;rw [isB_eq];simp [ha]
  go_enter Tryz.func64,Tryz.ntmps64
  go_wp2_with fail
  refine (at_any r s x _ hh.out hs).mono ?_
  rintro e w' ⟨rfl,n,rfl⟩
  go_wp2
  go_ret
  exact⟨ret_bool HV.out.symm,drewN_upd _ _ _,by rw [HV.out];exact hh.out.drewN n⟩
def sgs:ByteArray:=⟨#[92,40,41,91,93,123,125,42,43,63,124,46]⟩
theorem sg_yes (k:Nat) (hk:k < sgs.size) (c:Int) (h:((sgs[k].toNat:Int) == c)=true):Sp.sign c=true:=by
 have hk':k < 12:=hk
 rcases (by omega:k=0∨k=1∨k=2∨k=3∨k=4∨k=5∨k=6∨k=7∨k=8∨k=9∨k=10∨k=11) with rfl|rfl|rfl|rfl|rfl|rfl|rfl|rfl|rfl|rfl|rfl|rfl<;>
  (rw [beq_iff_eq] at h;rw [← h];rfl)
theorem cont_skip {a c:Int} {l:List Int} (h:(a == c)=false):(a::l).contains c=l.contains c:=by
 have h':a≠c:=by simpa using h
 rw [List.contains_cons];simp [Ne.symm h']
theorem sg_no (k:Nat) (hk:k < sgs.size) (c:Int) (h:((sgs[k].toNat:Int) == c)=false) (hq:Sp.sign c=(List.drop k [92,40,41,91,93,123,125,42,43,63,124,46]).contains c):Sp.sign c=(List.drop (k+1) [92,40,41,91,93,123,125,42,43,63,124,46]).contains c:=by
 have hk':k < 12:=hk
 rcases (by omega:k=0∨k=1∨k=2∨k=3∨k=4∨k=5∨k=6∨k=7∨k=8∨k=9∨k=10∨k=11) with rfl|rfl|rfl|rfl|rfl|rfl|rfl|rfl|rfl|rfl|rfl|rfl<;>
  exact hq.trans (cont_skip h)
set_option maxHeartbeats 400000 in
theorem sign_any (c:Int) (w:World) :
  Calls Tryz.prog 108 #[.int .u8 c] w fun e w'=>e=.returned (.bool (Sp.sign c))∧w'=w:=by
 go_enter Tryz.func108,Tryz.ntmps108
 go_wp2
 go_loop [4] (fun i=>∃ k:Nat,k≤12∧i=.int .i64 k∧Hid (Sp.sign c=(List.drop k [92,40,41,91,93,123,125,42,43,63,124,46]).contains c)) (fun i=>12 - (intOf i).toNat)
 case atStart=>exact⟨0,by omega,rfl,rfl⟩
 case round=>
  obtain⟨k,hk,rfl,HQ⟩:=hrel
  by_cases hlt:k < 12
  ·go_wp2
   ·go_ret
    exact⟨ret_bool (sg_yes k hlt c ‹_›).symm,rfl⟩
   ·exact⟨⟨k+1,by omega,by go_num,sg_no k hlt c ‹_› HQ.out⟩,by simp [intOf];omega⟩
  ·have hk':k=12:=by omega
   subst hk'
   go_wp2
   go_ret
   exact⟨ret_bool HQ.out.symm,rfl⟩
theorem atV_in {s:ByteArray} {x:RS} (h:atB s x=true):atV s x=Sp.byteAt s x.i:=if_pos h
theorem atV_lo (s:ByteArray) (x:RS):0≤atV s x:=by unfold atV;split;exact Sp.byteAt_lo _ _;omega
theorem atV_hi (s:ByteArray) (x:RS):atV s x≤255:=by unfold atV;split;exact Sp.byteAt_hi _ _;omega
theorem atB_ok {s:ByteArray} {x:RS} (he:x.e=0):atB s x=decide (x.i < s.size):=by simp [atB,he]
def ByteOut (r:Nat) (s:ByteArray) (x:RS) (w:World) (res:Sp.Res (Int×Nat)) (k:Ending) (w':World):Prop:=
 Upd [r] w w'∧match res with
 | .ok (v,j)=>k=.returned (.int .u8 v)∧RdAt w' r s { x with i:=j }
 | .error (e,a)=>∃ v i',0≤v∧v≤255∧k=.returned (.int .u8 v)∧RdAt w' r s { x with i:=i',e:=e,a:=a }
theorem ByteOut.mk_ok {r:Nat} {s:ByteArray} {x:RS} {w w':World} {res:Sp.Res (Int×Nat)} {k:Ending} (v:Int) (j:Nat) (h:res=.ok (v,j)) (u:Upd [r] w w') (hk:k=.returned (.int .u8 v)) (hr:RdAt w' r s { x with i:=j }):ByteOut r s x w res k w':=by
 subst h;exact⟨u,hk,hr⟩
theorem ByteOut.mk_error {r:Nat} {s:ByteArray} {x:RS} {w w':World} {res:Sp.Res (Int×Nat)} {k:Ending} (e a:Int) (v:Int) (i':Nat) (h:res=.error (e,a)) (u:Upd [r] w w') (h0:0≤v) (h1:v≤255) (hk:k=.returned (.int .u8 v)) (hr:RdAt w' r s { x with i:=i',e:=e,a:=a }):ByteOut r s x w res k w':=by
 subst h;exact⟨u,v,i',h0,h1,hk,hr⟩
set_option maxHeartbeats 400000 in
theorem escape_end (r:Nat) (s:ByteArray) (x:RS) (w:World) (h:RdAt w r s x) (hs:s.size≤200) (he:x.e=0) (hi:¬ x.i < s.size) :
  Calls Tryz.prog 111 #[.pointer (some ⟨r,0,none⟩)] w (ByteOut r s x w (Sp.escape s x.i)):=by
 obtain⟨c0,c1,c2,c3,c4,c5,fz⟩:=h.facts
 have hh:Hid (RdAt w r s x):=h
 have HE:Hid (x.e=0):=he
 have HR:Hid (Sp.escape s x.i=.error (3,x.i)):=by show _=_;unfold Sp.escape;rw [if_neg hi]
 have hB:atB s x=false:=by rw [atB_ok he];simpa using hi
 clear h he
 go_enter Tryz.func111,Tryz.ntmps111
 go_wp2_with (first|(go_at_call 87;refine (at_any r s x _ (by exact hh.out) hs).mono ?_;rintro e w' ⟨rfl,n,rfl⟩)|(go_at_call 108;refine (sign_any _ _).mono ?_;rintro e w' ⟨rfl,rfl⟩)|(go_at_call 42;refine (fail_any r s x _ _ _ (by exact hh.out)).mono ?_;rintro e w' ⟨rfl,hu,hf⟩))
 go_ret
 exact ByteOut.mk_error _ _ 0 x.i HR.out ((drewN_upd _ _ _).trans hu) (by omega) (by omega) rfl (by rw [RS.fail_ok HE.out] at hf;exact hf)
set_option maxHeartbeats 400000 in
theorem escape_n (r:Nat) (s:ByteArray) (x:RS) (w:World) (h:RdAt w r s x) (hs:s.size≤200) (he:x.e=0) (hi:x.i < s.size) (hv:Sp.byteAt s x.i=110) :
  Calls Tryz.prog 111 #[.pointer (some ⟨r,0,none⟩)] w (ByteOut r s x w (Sp.escape s x.i)):=by
 obtain⟨c0,c1,c2,c3,c4,c5,fz⟩:=h.facts
 have hh:Hid (RdAt w r s x):=h
 have HE:Hid (x.e=0):=he
 have HR:Hid (Sp.escape s x.i=.ok (10,x.i+1)):=by show _=_;unfold Sp.escape;rw [if_pos hi];simp [hv]
 have hB:atB s x=true:=by rw [atB_ok he];simpa using hi
 have hV:atV s x=110:=by rw [atV_in hB];exact hv
 clear h he hv
 go_enter Tryz.func111,Tryz.ntmps111
 go_wp2_with (first|(go_at_call 87;refine (at_any r s x _ (by exact hh.out) hs).mono ?_;rintro e w' ⟨rfl,n,rfl⟩)|(go_at_call 108;refine (sign_any _ _).mono ?_;rintro e w' ⟨rfl,rfl⟩)|(go_at_call 42;refine (fail_any r s x _ _ _ (by exact hh.out)).mono ?_;rintro e w' ⟨rfl,hu,hf⟩))
 go_ret
 exact ByteOut.mk_ok 10 (x.i+1) HR.out ((drewN_upd _ _ _).setCell (by simp) _) rfl (hh.out.set1 (x.i+1))
set_option maxHeartbeats 400000 in
theorem escape_t (r:Nat) (s:ByteArray) (x:RS) (w:World) (h:RdAt w r s x) (hs:s.size≤200) (he:x.e=0) (hi:x.i < s.size) (hv:Sp.byteAt s x.i=116) :
  Calls Tryz.prog 111 #[.pointer (some ⟨r,0,none⟩)] w (ByteOut r s x w (Sp.escape s x.i)):=by
 obtain⟨c0,c1,c2,c3,c4,c5,fz⟩:=h.facts
 have hh:Hid (RdAt w r s x):=h
 have HE:Hid (x.e=0):=he
 have HR:Hid (Sp.escape s x.i=.ok (9,x.i+1)):=by show _=_;unfold Sp.escape;rw [if_pos hi];simp [hv]
 have hB:atB s x=true:=by rw [atB_ok he];simpa using hi
 have hV:atV s x=116:=by rw [atV_in hB];exact hv
 clear h he hv
 go_enter Tryz.func111,Tryz.ntmps111
 go_wp2_with (first|(go_at_call 87;refine (at_any r s x _ (by exact hh.out) hs).mono ?_;rintro e w' ⟨rfl,n,rfl⟩)|(go_at_call 108;refine (sign_any _ _).mono ?_;rintro e w' ⟨rfl,rfl⟩)|(go_at_call 42;refine (fail_any r s x _ _ _ (by exact hh.out)).mono ?_;rintro e w' ⟨rfl,hu,hf⟩))
 go_ret
 exact ByteOut.mk_ok 9 (x.i+1) HR.out ((drewN_upd _ _ _).setCell (by simp) _) rfl (hh.out.set1 (x.i+1))
set_option maxHeartbeats 400000 in
theorem escape_sign (r:Nat) (s:ByteArray) (x:RS) (w:World) (h:RdAt w r s x) (hs:s.size≤200) (he:x.e=0) (hi:x.i < s.size) (h1:Sp.byteAt s x.i≠110) (h2:Sp.byteAt s x.i≠116) (h3:Sp.byteAt s x.i≠120) (hv:Sp.listSign (Sp.byteAt s x.i)=true) :
  Calls Tryz.prog 111 #[.pointer (some ⟨r,0,none⟩)] w (ByteOut r s x w (Sp.escape s x.i)):=by
 obtain⟨c0,c1,c2,c3,c4,c5,fz⟩:=h.facts
 have hh:Hid (RdAt w r s x):=h
 have HE:Hid (x.e=0):=he
 have HR:Hid (Sp.escape s x.i=.ok (Sp.byteAt s x.i,x.i+1)):=by show _=_;unfold Sp.escape;rw [if_pos hi];simp [h1,h2,h3,hv]
 have hB:atB s x=true:=by rw [atB_ok he];simpa using hi
 have HV:Hid (atV s x=Sp.byteAt s x.i):=atV_in hB
 have g1:(atV s x == 110)=false:=by rw [HV.out];simpa using h1
 have g2:(atV s x == 116)=false:=by rw [HV.out];simpa using h2
 have g3:(atV s x == 120)=false:=by rw [HV.out];simpa using h3
 have g4:Hid (¬ (Sp.sign (atV s x)=false∧(atV s x != 45)=true∧(atV s x != 94)=true)):=by
  show ¬ _;rw [HV.out];unfold Sp.listSign at hv;intro ⟨a,b,c⟩;simp at b c;simp [a,b,c] at hv
 clear h he hv h1 h2 h3
 go_enter Tryz.func111,Tryz.ntmps111
 go_wp2_with (first|(go_at_call 87;refine (at_any r s x _ (by exact hh.out) hs).mono ?_;rintro e w' ⟨rfl,n,rfl⟩)|(go_at_call 108;refine (sign_any _ _).mono ?_;rintro e w' ⟨rfl,rfl⟩)|(go_at_call 42;refine (fail_any r s x _ _ _ (by exact hh.out)).mono ?_;rintro e w' ⟨rfl,hu,hf⟩))
 ·go_ret
  exact ByteOut.mk_ok _ (x.i+1) HR.out ((drewN_upd _ _ _).setCell (by simp) _) (ret_int (by have:=HV.out;omega)) (hh.out.set1 (x.i+1))
 ·go_ret
  exact ByteOut.mk_ok _ (x.i+1) HR.out ((drewN_upd _ _ _).setCell (by simp) _) (ret_int (by have:=HV.out;omega)) (hh.out.set1 (x.i+1))
 ·rename_i q1 _ q2
  exact absurd ⟨by simpa using q1,q2⟩ g4.out
 ·go_ret
  exact ByteOut.mk_ok _ (x.i+1) HR.out ((drewN_upd _ _ _).setCell (by simp) _) (ret_int (by have:=HV.out;omega)) (hh.out.set1 (x.i+1))
set_option maxHeartbeats 400000 in
theorem escape_no (r:Nat) (s:ByteArray) (x:RS) (w:World) (h:RdAt w r s x) (hs:s.size≤200) (he:x.e=0) (hi:x.i < s.size) (h1:Sp.byteAt s x.i≠110) (h2:Sp.byteAt s x.i≠116) (h3:Sp.byteAt s x.i≠120) (hv:Sp.listSign (Sp.byteAt s x.i)=false) :
  Calls Tryz.prog 111 #[.pointer (some ⟨r,0,none⟩)] w (ByteOut r s x w (Sp.escape s x.i)):=by
 obtain⟨c0,c1,c2,c3,c4,c5,fz⟩:=h.facts
 have hh:Hid (RdAt w r s x):=h
 have HE:Hid (x.e=0):=he
 have HR:Hid (Sp.escape s x.i=.error (3,x.i)):=by show _=_;unfold Sp.escape;rw [if_pos hi];simp [h1,h2,h3,hv]
 have hB:atB s x=true:=by rw [atB_ok he];simpa using hi
 have HV:Hid (atV s x=Sp.byteAt s x.i):=atV_in hB
 have g1:(atV s x == 110)=false:=by rw [HV.out];simpa using h1
 have g2:(atV s x == 116)=false:=by rw [HV.out];simpa using h2
 have g3:(atV s x == 120)=false:=by rw [HV.out];simpa using h3
 have g4:Sp.sign (atV s x)=false:=by rw [HV.out];unfold Sp.listSign at hv;simp at hv;exact hv.1.1
 have g5:(atV s x != 45)=true:=by rw [HV.out];unfold Sp.listSign at hv;simp at hv;simpa using hv.1.2
 have g6:(atV s x != 94)=true:=by rw [HV.out];unfold Sp.listSign at hv;simp at hv;simpa using hv.2
 clear h he hv h1 h2 h3
 go_enter Tryz.func111,Tryz.ntmps111
 go_wp2_with (first|(go_at_call 87;refine (at_any r s x _ (by exact hh.out) hs).mono ?_;rintro e w' ⟨rfl,n,rfl⟩)|(go_at_call 108;refine (sign_any _ _).mono ?_;rintro e w' ⟨rfl,rfl⟩)|(go_at_call 42;refine (fail_any r s x _ _ _ (by exact hh.out)).mono ?_;rintro e w' ⟨rfl,hu,hf⟩))
 go_ret
 exact ByteOut.mk_error _ _ 0 x.i HR.out ((drewN_upd _ _ _).trans hu) (by omega) (by omega) rfl (by rw [RS.fail_ok HE.out] at hf;exact hf)
theorem escape_is (s:ByteArray) (i:Nat) (hi:i < s.size) (hv:Sp.byteAt s i=120):Sp.escape s i=Sp.hexPair s (i+1):=by
 unfold Sp.escape;rw [if_pos hi];simp [hv]
theorem hexPair_1 (s:ByteArray) (i:Nat) (h:¬ (i < s.size∧0≤Sp.hex (Sp.byteAt s i))):Sp.hexPair s i=.error (3,i):=if_neg h
theorem hexPair_2 (s:ByteArray) (i:Nat) (h:i < s.size∧0≤Sp.hex (Sp.byteAt s i)) (g:¬ (i+1 < s.size∧0≤Sp.hex (Sp.byteAt s (i+1)))):Sp.hexPair s i=.error (3,(i+1:Nat)):=by
 unfold Sp.hexPair;rw [if_pos h,if_neg g]
theorem hexPair_3 (s:ByteArray) (i:Nat) (h:i < s.size∧0≤Sp.hex (Sp.byteAt s i)) (g:i+1 < s.size∧0≤Sp.hex (Sp.byteAt s (i+1))):Sp.hexPair s i=.ok (16 * Sp.hex (Sp.byteAt s i)+Sp.hex (Sp.byteAt s (i+1)),i+2):=by
 unfold Sp.hexPair;rw [if_pos h,if_pos g]
set_option maxHeartbeats 400000 in
theorem escape_x1a (r:Nat) (s:ByteArray) (x:RS) (w:World) (h:RdAt w r s x) (hs:s.size≤200) (he:x.e=0) (hi:x.i < s.size) (hv:Sp.byteAt s x.i=120) (g:¬ x.i+1 < s.size) :
  Calls Tryz.prog 111 #[.pointer (some ⟨r,0,none⟩)] w (ByteOut r s x w (Sp.escape s x.i)):=by
 obtain⟨c0,c1,c2,c3,c4,c5,fz⟩:=h.facts
 have hh:Hid (RdAt w r s x):=h
 have HE:Hid (x.e=0):=he
 have HR:Hid (Sp.escape s x.i=.error (3,(x.i+1:Nat))):=(escape_is s x.i hi hv).trans (hexPair_1 _ _ (fun q=>g q.1))
 have hB:atB s x=true:=by rw [atB_ok he];simpa using hi
 have hV:atV s x=120:=by rw [atV_in hB];exact hv
 have hB1:atB s (⟨x.i+1,x.e,x.a,x.d,x.t⟩:RS)=false:=by rw [atB_ok (by exact he)];simpa using g
 clear h hv he
 go_enter Tryz.func111,Tryz.ntmps111
 go_wp2_with (first|(go_at_call 87;refine (at_any r s x _ (by exact hh.out) hs).mono ?_;rintro e w' ⟨rfl,n,rfl⟩)|(go_at_call 108;refine (sign_any _ _).mono ?_;rintro e w' ⟨rfl,rfl⟩))
 refine wp_loop_rounds 3 ?_
 rw [rounds_succ]
 go_wp2_with fail
 refine (at_any r s (⟨x.i+1,x.e,x.a,x.d,x.t⟩:RS) _ (by exact hh.out.set1 (x.i+1)) hs).mono ?_
 rintro e w' ⟨rfl,n1,rfl⟩
 go_wp2_with fail
 refine (hex_any _ _ (atV_lo _ _) (atV_hi _ _)).mono ?_
 rintro e w' ⟨rfl,rfl⟩
 go_wp2_with fail
 refine (fail_any r s (⟨x.i+1,x.e,x.a,x.d,x.t⟩:RS) _ _ _ (by exact hh.out.set1 (x.i+1))).mono ?_
 rintro e w' ⟨rfl,hu,hf⟩
 go_wp2_with fail
 go_ret
 exact ByteOut.mk_error _ _ 0 (x.i+1) HR.out (((drewN_upd [r] w _).setCell (p:=⟨r,1,none⟩) (by simp) _).trans hu.pre) (by omega) (by omega) rfl (by rw [RS.fail_ok (by exact HE.out)] at hf;exact hf)
set_option maxHeartbeats 400000 in
theorem escape_x1b (r:Nat) (s:ByteArray) (x:RS) (w:World) (h:RdAt w r s x) (hs:s.size≤200) (he:x.e=0) (hi:x.i < s.size) (hv:Sp.byteAt s x.i=120) (g:x.i+1 < s.size) (g1:¬ 0≤Sp.hex (Sp.byteAt s (x.i+1))) :
  Calls Tryz.prog 111 #[.pointer (some ⟨r,0,none⟩)] w (ByteOut r s x w (Sp.escape s x.i)):=by
 obtain⟨c0,c1,c2,c3,c4,c5,fz⟩:=h.facts
 have hh:Hid (RdAt w r s x):=h
 have HE:Hid (x.e=0):=he
 have HR:Hid (Sp.escape s x.i=.error (3,(x.i+1:Nat))):=(escape_is s x.i hi hv).trans (hexPair_1 _ _ (fun q=>g1 q.2))
 have hB:atB s x=true:=by rw [atB_ok he];simpa using hi
 have hV:atV s x=120:=by rw [atV_in hB];exact hv
 have hB1:atB s (⟨x.i+1,x.e,x.a,x.d,x.t⟩:RS)=true:=by rw [atB_ok (by exact he)];simpa using g
 have HV1:Hid (atV s (⟨x.i+1,x.e,x.a,x.d,x.t⟩:RS)=Sp.byteAt s (x.i+1)):=atV_in hB1
 have g2:decide (Sp.hex (atV s (⟨x.i+1,x.e,x.a,x.d,x.t⟩:RS)) < 0)=true:=by rw [HV1.out];simp;omega
 clear h hv he
 go_enter Tryz.func111,Tryz.ntmps111
 go_wp2_with (first|(go_at_call 87;refine (at_any r s x _ (by exact hh.out) hs).mono ?_;rintro e w' ⟨rfl,n,rfl⟩)|(go_at_call 108;refine (sign_any _ _).mono ?_;rintro e w' ⟨rfl,rfl⟩))
 refine wp_loop_rounds 3 ?_
 rw [rounds_succ]
 go_wp2_with fail
 refine (at_any r s (⟨x.i+1,x.e,x.a,x.d,x.t⟩:RS) _ (by exact hh.out.set1 (x.i+1)) hs).mono ?_
 rintro e w' ⟨rfl,n1,rfl⟩
 go_wp2_with fail
 refine (hex_any _ _ (atV_lo _ _) (atV_hi _ _)).mono ?_
 rintro e w' ⟨rfl,rfl⟩
 go_wp2_with fail
 refine (fail_any r s (⟨x.i+1,x.e,x.a,x.d,x.t⟩:RS) _ _ _ (by exact hh.out.set1 (x.i+1))).mono ?_
 rintro e w' ⟨rfl,hu,hf⟩
 go_wp2_with fail
 go_ret
 exact ByteOut.mk_error _ _ 0 (x.i+1) HR.out (((drewN_upd [r] w _).setCell (p:=⟨r,1,none⟩) (by simp) _).trans hu.pre) (by omega) (by omega) rfl (by rw [RS.fail_ok (by exact HE.out)] at hf;exact hf)
set_option maxHeartbeats 400000 in
theorem escape_x2a (r:Nat) (s:ByteArray) (x:RS) (w:World) (h:RdAt w r s x) (hs:s.size≤200) (he:x.e=0) (hi:x.i < s.size) (hv:Sp.byteAt s x.i=120) (g:x.i+1 < s.size) (g1:0≤Sp.hex (Sp.byteAt s (x.i+1))) (k:¬ x.i+1+1 < s.size) :
  Calls Tryz.prog 111 #[.pointer (some ⟨r,0,none⟩)] w (ByteOut r s x w (Sp.escape s x.i)):=by
 obtain⟨c0,c1,c2,c3,c4,c5,fz⟩:=h.facts
 have hh:Hid (RdAt w r s x):=h
 have HE:Hid (x.e=0):=he
 have HR:Hid (Sp.escape s x.i=.error (3,(x.i+1+1:Nat))):=(escape_is s x.i hi hv).trans (hexPair_2 _ _ ⟨g,g1⟩ (fun q=>k q.1))
 have hB:atB s x=true:=by rw [atB_ok he];simpa using hi
 have hV:atV s x=120:=by rw [atV_in hB];exact hv
 have hB1:atB s (⟨x.i+1,x.e,x.a,x.d,x.t⟩:RS)=true:=by rw [atB_ok (by exact he)];simpa using g
 have HV1:Hid (atV s (⟨x.i+1,x.e,x.a,x.d,x.t⟩:RS)=Sp.byteAt s (x.i+1)):=atV_in hB1
 have g2:0≤Sp.hex (atV s (⟨x.i+1,x.e,x.a,x.d,x.t⟩:RS)):=by rw [HV1.out];exact g1
 have g3:=hex_hi (atV s (⟨x.i+1,x.e,x.a,x.d,x.t⟩:RS))
 have hB2:atB s (⟨x.i+1+1,x.e,x.a,x.d,x.t⟩:RS)=false:=by rw [atB_ok (by exact he)];simpa using k
 clear h hv he
 go_enter Tryz.func111,Tryz.ntmps111
 go_wp2_with (first|(go_at_call 87;refine (at_any r s x _ (by exact hh.out) hs).mono ?_;rintro e w' ⟨rfl,n,rfl⟩)|(go_at_call 108;refine (sign_any _ _).mono ?_;rintro e w' ⟨rfl,rfl⟩))
 refine wp_loop_rounds 3 ?_
 rw [rounds_succ]
 go_wp2_with fail
 refine (at_any r s (⟨x.i+1,x.e,x.a,x.d,x.t⟩:RS) _ (by exact hh.out.set1 (x.i+1)) hs).mono ?_
 rintro e w' ⟨rfl,n1,rfl⟩
 go_wp2_with fail
 refine (hex_any _ _ (atV_lo _ _) (atV_hi _ _)).mono ?_
 rintro e w' ⟨rfl,rfl⟩
 go_wp2_with fail
 rw [rounds_succ]
 go_wp2_with fail
 refine (at_any r s (⟨x.i+1+1,x.e,x.a,x.d,x.t⟩:RS) _ (by exact (hh.out.set1 (x.i+1)).set1 (x.i+1+1)) hs).mono ?_
 rintro e w' ⟨rfl,n2,rfl⟩
 go_wp2_with fail
 refine (hex_any _ _ (atV_lo _ _) (atV_hi _ _)).mono ?_
 rintro e w' ⟨rfl,rfl⟩
 go_wp2_with fail
 refine (fail_any r s (⟨x.i+1+1,x.e,x.a,x.d,x.t⟩:RS) _ _ _ (by exact (hh.out.set1 (x.i+1)).set1 (x.i+1+1))).mono ?_
 rintro e w' ⟨rfl,hu,hf⟩
 go_wp2_with fail
 go_ret
 exact ByteOut.mk_error _ _ 0 (x.i+1+1) HR.out (by refine Upd.trans ?_ hu.pre;(repeat (first|exact Upd.refl _ _|refine Upd.drewN ?_|refine Upd.drew ?_|refine Upd.setCell ?_ (by simp) _|refine Upd.alloc ?_ _))) (by omega) (by omega) rfl (by rw [RS.fail_ok (by exact HE.out)] at hf;exact hf)
set_option maxHeartbeats 400000 in
theorem escape_x2b (r:Nat) (s:ByteArray) (x:RS) (w:World) (h:RdAt w r s x) (hs:s.size≤200) (he:x.e=0) (hi:x.i < s.size) (hv:Sp.byteAt s x.i=120) (g:x.i+1 < s.size) (g1:0≤Sp.hex (Sp.byteAt s (x.i+1))) (k:x.i+1+1 < s.size) (k1:¬ 0≤Sp.hex (Sp.byteAt s (x.i+1+1))) :
  Calls Tryz.prog 111 #[.pointer (some ⟨r,0,none⟩)] w (ByteOut r s x w (Sp.escape s x.i)):=by
 obtain⟨c0,c1,c2,c3,c4,c5,fz⟩:=h.facts
 have hh:Hid (RdAt w r s x):=h
 have HE:Hid (x.e=0):=he
 have HR:Hid (Sp.escape s x.i=.error (3,(x.i+1+1:Nat))):=(escape_is s x.i hi hv).trans (hexPair_2 _ _ ⟨g,g1⟩ (fun q=>k1 q.2))
 have hB:atB s x=true:=by rw [atB_ok he];simpa using hi
 have hV:atV s x=120:=by rw [atV_in hB];exact hv
 have hB1:atB s (⟨x.i+1,x.e,x.a,x.d,x.t⟩:RS)=true:=by rw [atB_ok (by exact he)];simpa using g
 have HV1:Hid (atV s (⟨x.i+1,x.e,x.a,x.d,x.t⟩:RS)=Sp.byteAt s (x.i+1)):=atV_in hB1
 have g2:0≤Sp.hex (atV s (⟨x.i+1,x.e,x.a,x.d,x.t⟩:RS)):=by rw [HV1.out];exact g1
 have g3:=hex_hi (atV s (⟨x.i+1,x.e,x.a,x.d,x.t⟩:RS))
 have hB2:atB s (⟨x.i+1+1,x.e,x.a,x.d,x.t⟩:RS)=true:=by rw [atB_ok (by exact he)];simpa using k
 have HV2:Hid (atV s (⟨x.i+1+1,x.e,x.a,x.d,x.t⟩:RS)=Sp.byteAt s (x.i+1+1)):=atV_in hB2
 have g4:decide (Sp.hex (atV s (⟨x.i+1+1,x.e,x.a,x.d,x.t⟩:RS)) < 0)=true:=by rw [HV2.out];simp;omega
 clear h hv he
 go_enter Tryz.func111,Tryz.ntmps111
 go_wp2_with (first|(go_at_call 87;refine (at_any r s x _ (by exact hh.out) hs).mono ?_;rintro e w' ⟨rfl,n,rfl⟩)|(go_at_call 108;refine (sign_any _ _).mono ?_;rintro e w' ⟨rfl,rfl⟩))
 refine wp_loop_rounds 3 ?_
 rw [rounds_succ]
 go_wp2_with fail
 refine (at_any r s (⟨x.i+1,x.e,x.a,x.d,x.t⟩:RS) _ (by exact hh.out.set1 (x.i+1)) hs).mono ?_
 rintro e w' ⟨rfl,n1,rfl⟩
 go_wp2_with fail
 refine (hex_any _ _ (atV_lo _ _) (atV_hi _ _)).mono ?_
 rintro e w' ⟨rfl,rfl⟩
 go_wp2_with fail
 rw [rounds_succ]
 go_wp2_with fail
 refine (at_any r s (⟨x.i+1+1,x.e,x.a,x.d,x.t⟩:RS) _ (by exact (hh.out.set1 (x.i+1)).set1 (x.i+1+1)) hs).mono ?_
 rintro e w' ⟨rfl,n2,rfl⟩
 go_wp2_with fail
 refine (hex_any _ _ (atV_lo _ _) (atV_hi _ _)).mono ?_
 rintro e w' ⟨rfl,rfl⟩
 go_wp2_with fail
 refine (fail_any r s (⟨x.i+1+1,x.e,x.a,x.d,x.t⟩:RS) _ _ _ (by exact (hh.out.set1 (x.i+1)).set1 (x.i+1+1))).mono ?_
 rintro e w' ⟨rfl,hu,hf⟩
 go_wp2_with fail
 go_ret
 exact ByteOut.mk_error _ _ 0 (x.i+1+1) HR.out (by refine Upd.trans ?_ hu.pre;(repeat (first|exact Upd.refl _ _|refine Upd.drewN ?_|refine Upd.drew ?_|refine Upd.setCell ?_ (by simp) _|refine Upd.alloc ?_ _))) (by omega) (by omega) rfl (by rw [RS.fail_ok (by exact HE.out)] at hf;exact hf)
set_option maxHeartbeats 400000 in
theorem escape_x3 (r:Nat) (s:ByteArray) (x:RS) (w:World) (h:RdAt w r s x) (hs:s.size≤200) (he:x.e=0) (hi:x.i < s.size) (hv:Sp.byteAt s x.i=120) (g:x.i+1 < s.size) (g1:0≤Sp.hex (Sp.byteAt s (x.i+1))) (k:x.i+1+1 < s.size) (k1:0≤Sp.hex (Sp.byteAt s (x.i+1+1))) :
  Calls Tryz.prog 111 #[.pointer (some ⟨r,0,none⟩)] w (ByteOut r s x w (Sp.escape s x.i)):=by
 obtain⟨c0,c1,c2,c3,c4,c5,fz⟩:=h.facts
 have hh:Hid (RdAt w r s x):=h
 have HE:Hid (x.e=0):=he
 have HR:Hid (Sp.escape s x.i=.ok (16 * Sp.hex (Sp.byteAt s (x.i+1))+Sp.hex (Sp.byteAt s (x.i+1+1)),x.i+1+2)):=(escape_is s x.i hi hv).trans (hexPair_3 _ _ ⟨g,g1⟩ ⟨k,k1⟩)
 have hB:atB s x=true:=by rw [atB_ok he];simpa using hi
 have hV:atV s x=120:=by rw [atV_in hB];exact hv
 have hB1:atB s (⟨x.i+1,x.e,x.a,x.d,x.t⟩:RS)=true:=by rw [atB_ok (by exact he)];simpa using g
 have HV1:Hid (atV s (⟨x.i+1,x.e,x.a,x.d,x.t⟩:RS)=Sp.byteAt s (x.i+1)):=atV_in hB1
 have g2:0≤Sp.hex (atV s (⟨x.i+1,x.e,x.a,x.d,x.t⟩:RS)):=by rw [HV1.out];exact g1
 have g3:=hex_hi (atV s (⟨x.i+1,x.e,x.a,x.d,x.t⟩:RS))
 have hB2:atB s (⟨x.i+1+1,x.e,x.a,x.d,x.t⟩:RS)=true:=by rw [atB_ok (by exact he)];simpa using k
 have HV2:Hid (atV s (⟨x.i+1+1,x.e,x.a,x.d,x.t⟩:RS)=Sp.byteAt s (x.i+1+1)):=atV_in hB2
 have g4:0≤Sp.hex (atV s (⟨x.i+1+1,x.e,x.a,x.d,x.t⟩:RS)):=by rw [HV2.out];exact k1
 have g5:=hex_hi (atV s (⟨x.i+1+1,x.e,x.a,x.d,x.t⟩:RS))
 clear h hv he
 go_enter Tryz.func111,Tryz.ntmps111
 go_wp2_with (first|(go_at_call 87;refine (at_any r s x _ (by exact hh.out) hs).mono ?_;rintro e w' ⟨rfl,n,rfl⟩)|(go_at_call 108;refine (sign_any _ _).mono ?_;rintro e w' ⟨rfl,rfl⟩))
 refine wp_loop_rounds 3 ?_
 rw [rounds_succ]
 go_wp2_with fail
 refine (at_any r s (⟨x.i+1,x.e,x.a,x.d,x.t⟩:RS) _ (by exact hh.out.set1 (x.i+1)) hs).mono ?_
 rintro e w' ⟨rfl,n1,rfl⟩
 go_wp2_with fail
 refine (hex_any _ _ (atV_lo _ _) (atV_hi _ _)).mono ?_
 rintro e w' ⟨rfl,rfl⟩
 go_wp2_with fail
 rw [rounds_succ]
 go_wp2_with fail
 refine (at_any r s (⟨x.i+1+1,x.e,x.a,x.d,x.t⟩:RS) _ (by exact (hh.out.set1 (x.i+1)).set1 (x.i+1+1)) hs).mono ?_
 rintro e w' ⟨rfl,n2,rfl⟩
 go_wp2_with fail
 refine (hex_any _ _ (atV_lo _ _) (atV_hi _ _)).mono ?_
 rintro e w' ⟨rfl,rfl⟩
 go_wp2_with fail
 rw [rounds_succ]
 go_wp2_with fail
 go_ret
 exact ByteOut.mk_ok _ (x.i+1+2) HR.out (by (repeat (first|exact Upd.refl _ _|refine Upd.drewN ?_|refine Upd.drew ?_|refine Upd.setCell ?_ (by simp) _|refine Upd.alloc ?_ _))) (ret_int (by rw [HV1.out,HV2.out])) (by exact ((hh.out.set1 (x.i+1)).set1 (x.i+1+1)).set1 (x.i+1+2))
theorem escape_any (r:Nat) (s:ByteArray) (x:RS) (w:World) (h:RdAt w r s x) (hs:s.size≤200) (he:x.e=0) :
  Calls Tryz.prog 111 #[.pointer (some ⟨r,0,none⟩)] w (ByteOut r s x w (Sp.escape s x.i)):=by
 by_cases hi:x.i < s.size
 ·by_cases h1:Sp.byteAt s x.i=110
  ·exact escape_n r s x w h hs he hi h1
  by_cases h2:Sp.byteAt s x.i=116
  ·exact escape_t r s x w h hs he hi h2
  by_cases h3:Sp.byteAt s x.i=120
  ·by_cases g:x.i+1 < s.size
   ·by_cases g1:0≤Sp.hex (Sp.byteAt s (x.i+1))
    ·by_cases k:x.i+1+1 < s.size
     ·by_cases k1:0≤Sp.hex (Sp.byteAt s (x.i+1+1))
      ·exact escape_x3 r s x w h hs he hi h3 g g1 k k1
      ·exact escape_x2b r s x w h hs he hi h3 g g1 k k1
     ·exact escape_x2a r s x w h hs he hi h3 g g1 k
    ·exact escape_x1b r s x w h hs he hi h3 g g1
   ·exact escape_x1a r s x w h hs he hi h3 g
  by_cases h4:Sp.listSign (Sp.byteAt s x.i)=true
  ·exact escape_sign r s x w h hs he hi h1 h2 h3 h4
  ·exact escape_no r s x w h hs he hi h1 h2 h3 (by simpa using h4)
 ·exact escape_end r s x w h hs he hi
set_option maxHeartbeats 400000 in
theorem end_out (r:Nat) (s:ByteArray) (x:RS) (w:World) (h:RdAt w r s x) (hs:s.size≤200) (he:x.e=0) (hi:¬ x.i < s.size) :
  Calls Tryz.prog 119 #[.pointer (some ⟨r,0,none⟩)] w (ByteOut r s x w (Sp.byteBut true s x.i)):=by
 obtain⟨c0,c1,c2,c3,c4,c5,fz⟩:=h.facts
 have hh:Hid (RdAt w r s x):=h
 have HE:Hid (x.e=0):=he
 have HR:Hid (Sp.byteBut true s x.i=.error (3,x.i)):=by show _=_;unfold Sp.byteBut;rw [isAt_out hi,if_neg (by simp),if_neg (fun q=>hi q.1)]
 have hB:atB s x=false:=by rw [atB_ok he];simpa using hi
 clear h he
 go_enter Tryz.func119,Tryz.ntmps119
 go_wp2_with (first|(go_at_call 87;refine (at_any r s x _ (by exact hh.out) hs).mono ?_;rintro e w' ⟨rfl,n,rfl⟩)|(go_at_call 108;refine (sign_any _ _).mono ?_;rintro e w' ⟨rfl,rfl⟩)|(go_at_call 42;refine (fail_any r s x _ _ _ (by exact hh.out)).mono ?_;rintro e w' ⟨rfl,hu,hf⟩))
 go_ret
 exact ByteOut.mk_error _ _ 0 x.i HR.out ((drewN_upd _ _ _).trans hu) (by omega) (by omega) rfl (by rw [RS.fail_ok HE.out] at hf;exact hf)
set_option maxHeartbeats 400000 in
theorem end_esc (r:Nat) (s:ByteArray) (x:RS) (w:World) (h:RdAt w r s x) (hs:s.size≤200) (he:x.e=0) (hi:x.i < s.size) (hv:Sp.byteAt s x.i=92) :
  Calls Tryz.prog 119 #[.pointer (some ⟨r,0,none⟩)] w (ByteOut r s x w (Sp.byteBut true s x.i)):=by
 obtain⟨c0,c1,c2,c3,c4,c5,fz⟩:=h.facts
 have hh:Hid (RdAt w r s x):=h
 have HE:Hid (x.e=0):=he
 have HR:Hid (Sp.byteBut true s x.i=Sp.escape s (x.i+1)):=by show _=_;unfold Sp.byteBut;rw [isAt_ok hi,if_pos (by simpa using hv)]
 have hB:atB s x=true:=by rw [atB_ok he];simpa using hi
 have hV:atV s x=92:=by rw [atV_in hB];exact hv
 clear h hv
 go_enter Tryz.func119,Tryz.ntmps119
 go_wp2_with (go_at_call 87;refine (at_any r s x _ (by exact hh.out) hs).mono ?_;rintro e w' ⟨rfl,n,rfl⟩)
 refine (escape_any r s (⟨x.i+1,x.e,x.a,x.d,x.t⟩:RS) _ (by exact hh.out.set1 (x.i+1)) hs (by exact he)).mono ?_
 rintro e w' ⟨hu,hq⟩
 have HU:Hid (Upd [r] w w'):=(by refine Upd.trans ?_ hu;(repeat (first|exact Upd.refl _ _|refine Upd.drewN ?_|refine Upd.drew ?_|refine Upd.setCell ?_ (by simp) _|refine Upd.alloc ?_ _)):Upd [r] w w')
 clear hu
 revert hq
 cases hr:Sp.escape s (x.i+1) with
 | ok p=>
  obtain⟨v,j⟩:=p
  rintro ⟨rfl,hf⟩
  have HR':Hid (Sp.byteBut true s x.i=.ok (v,j)):=HR.out.trans hr
  clear hr
  go_wp2
  go_ret
  exact ByteOut.mk_ok v j HR'.out HU.out rfl hf
 | error p=>
  obtain⟨e1,a1⟩:=p
  rintro ⟨v,i',h0,h1,rfl,hf⟩
  have HR':Hid (Sp.byteBut true s x.i=.error (e1,a1)):=HR.out.trans hr
  clear hr
  go_wp2
  go_ret
  exact ByteOut.mk_error _ _ v i' HR'.out HU.out h0 h1 rfl hf
set_option maxHeartbeats 400000 in
theorem end_no (r:Nat) (s:ByteArray) (x:RS) (w:World) (h:RdAt w r s x) (hs:s.size≤200) (he:x.e=0) (hi:x.i < s.size) (hv:Sp.byteAt s x.i≠92) (hl:Sp.listSign (Sp.byteAt s x.i)=true) :
  Calls Tryz.prog 119 #[.pointer (some ⟨r,0,none⟩)] w (ByteOut r s x w (Sp.byteBut true s x.i)):=by
 obtain⟨c0,c1,c2,c3,c4,c5,fz⟩:=h.facts
 have hh:Hid (RdAt w r s x):=h
 have HE:Hid (x.e=0):=he
 have HR:Hid (Sp.byteBut true s x.i=.error (3,x.i)):=by show _=_;unfold Sp.byteBut;rw [isAt_ok hi,if_neg (by simpa using hv),if_neg (fun q=>by simp [hl] at q)]
 have hB:atB s x=true:=by rw [atB_ok he];simpa using hi
 have HV:Hid (atV s x=Sp.byteAt s x.i):=atV_in hB
 have g1:(atV s x == 92)=false:=by rw [HV.out];simpa using hv
 have g4:Hid (Sp.sign (atV s x)=true∨atV s x=45∨atV s x=94):=by
  show _∨_;rw [HV.out];unfold Sp.listSign at hl;simp at hl;rcases hl with (q|q)|q<;>simp [q]
 clear h he hv hl
 go_enter Tryz.func119,Tryz.ntmps119
 go_wp2_with (first|(go_at_call 87;refine (at_any r s x _ (by exact hh.out) hs).mono ?_;rintro e w' ⟨rfl,n,rfl⟩)|(go_at_call 108;refine (sign_any _ _).mono ?_;rintro e w' ⟨rfl,rfl⟩)|(go_at_call 42;refine (fail_any r s x _ _ _ (by exact hh.out)).mono ?_;rintro e w' ⟨rfl,hu,hf⟩))
 ·go_ret
  exact ByteOut.mk_error _ _ 0 x.i HR.out ((drewN_upd _ _ _).trans hu) (by omega) (by omega) rfl (by rw [RS.fail_ok HE.out] at hf;exact hf)
 ·go_ret
  exact ByteOut.mk_error _ _ 0 x.i HR.out ((drewN_upd _ _ _).trans hu) (by omega) (by omega) rfl (by rw [RS.fail_ok HE.out] at hf;exact hf)
 ·go_ret
  exact ByteOut.mk_error _ _ 0 x.i HR.out ((drewN_upd _ _ _).trans hu) (by omega) (by omega) rfl (by rw [RS.fail_ok HE.out] at hf;exact hf)
 ·rename_i q1 q2 q3
  have:=g4.out
  simp at q3
  simp [q1,q3] at this
set_option maxHeartbeats 400000 in
theorem end_ok (r:Nat) (s:ByteArray) (x:RS) (w:World) (h:RdAt w r s x) (hs:s.size≤200) (he:x.e=0) (hi:x.i < s.size) (hv:Sp.byteAt s x.i≠92) (hl:Sp.listSign (Sp.byteAt s x.i)=false) :
  Calls Tryz.prog 119 #[.pointer (some ⟨r,0,none⟩)] w (ByteOut r s x w (Sp.byteBut true s x.i)):=by
 obtain⟨c0,c1,c2,c3,c4,c5,fz⟩:=h.facts
 have hh:Hid (RdAt w r s x):=h
 have HR:Hid (Sp.byteBut true s x.i=.ok (Sp.byteAt s x.i,x.i+1)):=by show _=_;unfold Sp.byteBut;rw [isAt_ok hi,if_neg (by simpa using hv),if_pos ⟨hi,by simpa using hl⟩]
 have hB:atB s x=true:=by rw [atB_ok he];simpa using hi
 have HV:Hid (atV s x=Sp.byteAt s x.i):=atV_in hB
 have g1:(atV s x == 92)=false:=by rw [HV.out];simpa using hv
 have g4:Sp.sign (atV s x)=false:=by rw [HV.out];unfold Sp.listSign at hl;simp at hl;exact hl.1.1
 have g5:(atV s x == 45)=false:=by rw [HV.out];unfold Sp.listSign at hl;simp at hl;simpa using hl.1.2
 have g6:(atV s x == 94)=false:=by rw [HV.out];unfold Sp.listSign at hl;simp at hl;simpa using hl.2
 clear h he hv hl
 go_enter Tryz.func119,Tryz.ntmps119
 go_wp2_with (first|(go_at_call 87;refine (at_any r s x _ (by exact hh.out) hs).mono ?_;rintro e w' ⟨rfl,n,rfl⟩)|(go_at_call 108;refine (sign_any _ _).mono ?_;rintro e w' ⟨rfl,rfl⟩))
 go_ret
 exact ByteOut.mk_ok _ (x.i+1) HR.out ((drewN_upd _ _ _).setCell (by simp) _) (ret_int HV.out) (hh.out.set1 (x.i+1))
theorem end_any (r:Nat) (s:ByteArray) (x:RS) (w:World) (h:RdAt w r s x) (hs:s.size≤200) (he:x.e=0) :
  Calls Tryz.prog 119 #[.pointer (some ⟨r,0,none⟩)] w (ByteOut r s x w (Sp.byteBut true s x.i)):=by
 by_cases hi:x.i < s.size
 ·by_cases h1:Sp.byteAt s x.i=92
  ·exact end_esc r s x w h hs he hi h1
  by_cases h2:Sp.listSign (Sp.byteAt s x.i)=true
  ·exact end_no r s x w h hs he hi h1 h2
  ·exact end_ok r s x w h hs he hi h1 (by simpa using h2)
 ·exact end_out r s x w h hs he hi
def NumOut (r:Nat) (s:ByteArray) (x:RS) (w:World) (res:Sp.Res (Int×Nat)) (k:Ending) (w':World):Prop:=
 Upd [r] w w'∧match res with
 | .ok (v,j)=>k=.returned (.tuple #[.int .i64 v,.int .i64 x.i])∧0≤v∧v≤20∧RdAt w' r s { x with i:=j }
 | .error (e,a)=>e≠0∧∃ v i',0≤v∧v≤99∧k=.returned (.tuple #[.int .i64 v,.int .i64 x.i])∧RdAt w' r s { x with i:=i',e:=e,a:=a }
theorem NumOut.mk_ok {r:Nat} {s:ByteArray} {x:RS} {w w':World} {res:Sp.Res (Int×Nat)} {k:Ending} (v:Int) (j:Nat) (h:res=.ok (v,j)) (u:Upd [r] w w') (hk:k=.returned (.tuple #[.int .i64 v,.int .i64 x.i])) (h0:0≤v) (h1:v≤20) (hr:RdAt w' r s { x with i:=j }):NumOut r s x w res k w':=by
 subst h;exact⟨u,hk,h0,h1,hr⟩
theorem NumOut.mk_error {r:Nat} {s:ByteArray} {x:RS} {w w':World} {res:Sp.Res (Int×Nat)} {k:Ending} (e a:Int) (v:Int) (i':Nat) (h:res=.error (e,a)) (he:e≠0) (u:Upd [r] w w') (h0:0≤v) (h1:v≤99) (hk:k=.returned (.tuple #[.int .i64 v,.int .i64 x.i])) (hr:RdAt w' r s { x with i:=i',e:=e,a:=a }):NumOut r s x w res k w':=by
 subst h;exact⟨u,he,v,i',h0,h1,hk,hr⟩
set_option maxHeartbeats 400000 in
theorem number_no (r:Nat) (s:ByteArray) (x:RS) (w:World) (h:RdAt w r s x) (hs:s.size≤200) (he:x.e=0) (hd:Sp.digitAt s x.i=false) :
  Calls Tryz.prog 121 #[.pointer (some ⟨r,0,none⟩)] w (NumOut r s x w (Sp.number 0 s x.i)):=by
 obtain⟨c0,c1,c2,c3,c4,c5,fz⟩:=h.facts
 have hh:Hid (RdAt w r s x):=h
 have HE:Hid (x.e=0):=he
 have HR:Hid (Sp.number 0 s x.i=.error (3,x.i)):=by show _=_;unfold Sp.number;rw [hd,if_neg (by simp)]
 have g4:Hid (¬ (atB s x=true∧48≤atV s x∧atV s x≤57)):=by
  intro ⟨q1,q2,q3⟩;rw [atV_in q1] at q2 q3;rw [atB_ok he] at q1;simp at q1;simp [Sp.digitAt,q1,q2] at hd;omega
 clear h he hd
 go_enter Tryz.func121,Tryz.ntmps121
 go_wp2_with (first|(go_at_call 87;refine (at_any r s x _ (by exact hh.out) hs).mono ?_;rintro e w' ⟨rfl,n,rfl⟩)|(go_at_call 42;refine (fail_any r s x _ _ _ (by exact hh.out)).mono ?_;rintro e w' ⟨rfl,hu,hf⟩))
 ·go_ret2
  exact NumOut.mk_error _ _ 0 x.i HR.out (by decide) ((drewN_upd _ _ _).trans hu) (by omega) (by omega) rfl (by rw [RS.fail_ok HE.out] at hf;exact hf)
 ·exact absurd ⟨‹atB s x=true›,‹48≤atV s x∧atV s x≤57›⟩ g4.out
 ·go_ret2
  exact NumOut.mk_error _ _ 0 x.i HR.out (by decide) ((drewN_upd _ _ _).trans hu) (by omega) (by omega) rfl (by rw [RS.fail_ok HE.out] at hf;exact hf)
 ·go_ret2
  exact NumOut.mk_error _ _ 0 x.i HR.out (by decide) ((drewN_upd _ _ _).trans hu) (by omega) (by omega) rfl (by rw [RS.fail_ok HE.out] at hf;exact hf)
theorem digits_two {s:ByteArray} {x:RS} (he:x.e=0) (hB:atB s x=true) (g0:48 < atV s x) (hB1:atB s (⟨x.i+1,x.e,x.a,x.d,x.t⟩:RS)=true) (g1:48≤atV s (⟨x.i+1,x.e,x.a,x.d,x.t⟩:RS)) (g2:atV s (⟨x.i+1,x.e,x.a,x.d,x.t⟩:RS)≤57) :
  Sp.digits s x.i=(10 * (atV s x - 48)+(atV s (⟨x.i+1,x.e,x.a,x.d,x.t⟩:RS) - 48),x.i+2):=by
 rw [atV_in hB1] at *;rw [atV_in hB] at *;rw [atB_ok (by exact he)] at hB1;simp at hB1 g1 g2
 unfold Sp.digits;rw [if_pos ⟨by omega,by simp [Sp.digitAt,hB1,g1,g2]⟩]
theorem digits_one {s:ByteArray} {x:RS} (he:x.e=0) (hB:atB s x=true) (g:¬ (48 < atV s x∧atB s (⟨x.i+1,x.e,x.a,x.d,x.t⟩:RS)=true∧48≤atV s (⟨x.i+1,x.e,x.a,x.d,x.t⟩:RS)∧atV s (⟨x.i+1,x.e,x.a,x.d,x.t⟩:RS)≤57)) :
  Sp.digits s x.i=(atV s x - 48,x.i+1):=by
 rw [atV_in hB] at *
 unfold Sp.digits;rw [if_neg]
 rintro ⟨q0,q1⟩
 simp [Sp.digitAt] at q1
 have hB1:atB s (⟨x.i+1,x.e,x.a,x.d,x.t⟩:RS)=true:=by rw [atB_ok (by exact he)];simpa using q1.1.1
 exact g ⟨by omega,hB1,by rw [atV_in hB1];exact q1.1.2,by rw [atV_in hB1];exact q1.2⟩
theorem number_no_of {s:ByteArray} {i:Nat} {n:Int} {j:Nat} (hd:Sp.digitAt s i=true) (h:Sp.digits s i=(n,j)) (hn:20 < n):Sp.number 0 s i=.error (4,i):=by
 unfold Sp.number;rw [hd,if_pos rfl,h,if_pos (Or.inl hn)]
theorem number_ok_of {s:ByteArray} {i:Nat} {n:Int} {j:Nat} (hd:Sp.digitAt s i=true) (h:Sp.digits s i=(n,j)) (hn:n≤20) (h0:0≤n):Sp.number 0 s i=.ok (n,j):=by
 unfold Sp.number;rw [hd,if_pos rfl,h,if_neg];intro q;omega
set_option maxHeartbeats 400000 in
theorem number_yes (r:Nat) (s:ByteArray) (x:RS) (w:World) (h:RdAt w r s x) (hs:s.size≤200) (he:x.e=0) (hd:Sp.digitAt s x.i=true) :
  Calls Tryz.prog 121 #[.pointer (some ⟨r,0,none⟩)] w (NumOut r s x w (Sp.number 0 s x.i)):=by
 obtain⟨c0,c1,c2,c3,c4,c5,fz⟩:=h.facts
 have hh:Hid (RdAt w r s x):=h
 have HE:Hid (x.e=0):=he
 have hi:x.i < s.size:=by simp [Sp.digitAt] at hd;exact hd.1.1
 have hB:atB s x=true:=by rw [atB_ok he];simpa using hi
 have HV:Hid (atV s x=Sp.byteAt s x.i):=atV_in hB
 have g1:48≤atV s x:=by rw [HV.out];simp [Sp.digitAt] at hd;exact hd.1.2
 have g2:atV s x≤57:=by rw [HV.out];simp [Sp.digitAt] at hd;exact hd.2
 have HD:Hid (Sp.digitAt s x.i=true):=hd
 clear h he hd
 go_enter Tryz.func121,Tryz.ntmps121
 go_wp2_with (go_at_call 87;refine (at_any r s x _ (by exact hh.out) hs).mono ?_;rintro e w' ⟨rfl,n,rfl⟩)
 refine (at_any r s (⟨x.i+1,x.e,x.a,x.d,x.t⟩:RS) _ (by exact hh.out.set1 (x.i+1)) hs).mono ?_
 rintro e w' ⟨rfl,n1,rfl⟩
 go_wp2_with fail
 ·have HN:=digits_two HE.out hB ‹_› ‹_› ‹_› ‹_›
  have HR:Hid (Sp.number 0 s x.i=.error (4,x.i)):=number_no_of HD.out HN ‹_›
  clear HN
  refine (fail_any r s (⟨x.i+1+1,x.e,x.a,x.d,x.t⟩:RS) _ _ _ (by exact (hh.out.set1 (x.i+1)).set1 (x.i+1+1))).mono ?_
  rintro e w' ⟨rfl,hu,hf⟩
  go_wp2_with fail
  go_ret2
  exact NumOut.mk_error _ _ _ _ HR.out (by decide) (by refine Upd.trans ?_ hu;(repeat (first|exact Upd.refl _ _|refine Upd.drewN ?_|refine Upd.drew ?_|refine Upd.setCell ?_ (by simp) _|refine Upd.alloc ?_ _))) (by omega) (by omega) rfl (by rw [RS.fail_ok (by exact HE.out)] at hf;exact hf)
 ·have HN:=digits_two HE.out hB ‹_› ‹_› ‹_› ‹_›
  have HR:Hid (Sp.number 0 s x.i=.ok _):=number_ok_of HD.out HN ‹_› (by omega)
  go_ret2
  exact NumOut.mk_ok _ _ HR.out (by (repeat (first|exact Upd.refl _ _|refine Upd.drewN ?_|refine Upd.drew ?_|refine Upd.setCell ?_ (by simp) _|refine Upd.alloc ?_ _))) rfl (by omega) (by omega) (by exact (hh.out.set1 (x.i+1)).set1 (x.i+1+1))
 all_goals
  have HN:=digits_one HE.out hB (fun q=>by first|omega|exact absurd q.2.1 ‹_›)
  have HR:Hid (Sp.number 0 s x.i=.ok _):=number_ok_of HD.out HN (by omega) (by omega)
  go_ret2
  exact NumOut.mk_ok _ _ HR.out (by (repeat (first|exact Upd.refl _ _|refine Upd.drewN ?_|refine Upd.drew ?_|refine Upd.setCell ?_ (by simp) _|refine Upd.alloc ?_ _))) rfl (by omega) (by omega) (by exact hh.out.set1 (x.i+1))
theorem number_any (r:Nat) (s:ByteArray) (x:RS) (w:World) (h:RdAt w r s x) (hs:s.size≤200) (he:x.e=0) :
  Calls Tryz.prog 121 #[.pointer (some ⟨r,0,none⟩)] w (NumOut r s x w (Sp.number 0 s x.i)):=by
 by_cases hd:Sp.digitAt s x.i=true
 ·exact number_yes r s x w h hs he hd
 ·exact number_no r s x w h hs he (by simpa using hd)
structure PS where
 kind:Int
 l:Value
 set:Nat→Bool
 not:Bool
 dot:Bool
 single:Bool
 told:Bool
 min:Int
 max:Int
structure PtC (c:Array Value) (a:PS):Prop where
 size:c.size=264
 c0:c[0]?=some (.int .u8 a.kind)
 c1:c[1]?=some a.l
 set:∀ i,i < 256→c[2+i]?=some (.bool (a.set i))
 c258:c[258]?=some (.bool a.not)
 c259:c[259]?=some (.bool a.dot)
 c260:c[260]?=some (.bool a.single)
 c261:c[261]?=some (.bool a.told)
 c262:c[262]?=some (.int .i64 a.min)
 c263:c[263]?=some (.int .i64 a.max)
def PtAt (w:World) (p:Nat) (a:PS):Prop:=∃ c,w.heap[p]?=some (.cells c 126 (0,0))∧PtC c a
structure PtFacts (w:World) (p:Nat) (a:PS):Prop where
 c0:w.cell? ⟨p,0,none⟩=some (.int .u8 a.kind)
 c1:w.cell? ⟨p,1,none⟩=some a.l
 c258:w.cell? ⟨p,258,none⟩=some (.bool a.not)
 c259:w.cell? ⟨p,259,none⟩=some (.bool a.dot)
 c260:w.cell? ⟨p,260,none⟩=some (.bool a.single)
 c261:w.cell? ⟨p,261,none⟩=some (.bool a.told)
 c262:w.cell? ⟨p,262,none⟩=some (.int .i64 a.min)
 c263:w.cell? ⟨p,263,none⟩=some (.int .i64 a.max)
 fz:∀ o,w.frozen? ⟨p,o,none⟩=false
theorem PtAt.facts {w:World} {p:Nat} {a:PS} (h:PtAt w p a):PtFacts w p a:=by
 obtain⟨c,h,q⟩:=h
 refine⟨?_,?_,?_,?_,?_,?_,?_,?_,?_⟩<;>(try intro o)<;>simp [World.cell?,World.frozen?,h,q.c0,q.c1,q.c258,q.c259,q.c260,q.c261,q.c262,q.c263]
theorem PtAt.setFact {w:World} {p:Nat} {a:PS} (h:PtAt w p a) (i:Nat) (hi:i < 256):w.cell? ⟨p,2+i,none⟩=some (.bool (a.set i)):=by
 obtain⟨c,h,q⟩:=h
 simp [World.cell?,h,q.set i hi]
theorem RdAt.lt {w:World} {r:Nat} {s:ByteArray} {x:RS} (h:RdAt w r s x):r < w.heap.size:=lt_of_heap h
theorem PtAt.lt {w:World} {p:Nat} {a:PS} (h:PtAt w p a):p < w.heap.size:=by obtain⟨c,h,_⟩:=h;exact lt_of_heap h
theorem PtAt.upd {l:List Nat} {w w':World} {p:Nat} {a:PS} (h:PtAt w p a) (u:Upd l w w') (hp:p∉l):PtAt w' p a:=by
 have:=h.lt
 obtain⟨c,h,q⟩:=h
 exact⟨c,by rw [u.block p this hp];exact h,q⟩
theorem RdAt.other {w:World} {r:Nat} {s:ByteArray} {x:RS} (h:RdAt w r s x) {p:Nat} (hp:r≠p) (o:Nat) (v:Value):RdAt (w.setCell ⟨p,o,none⟩ v) r s x:=by
 unfold RdAt at *;rw [Below.heap_setCell _ _ _ _ hp];exact h
theorem PtAt.other {w:World} {p:Nat} {a:PS} (h:PtAt w p a) {r:Nat} (hp:p≠r) (o:Nat) (v:Value):PtAt (w.setCell ⟨r,o,none⟩ v) p a:=by
 obtain⟨c,h,q⟩:=h
 exact⟨c,by rw [Below.heap_setCell _ _ _ _ hp];exact h,q⟩
theorem set_ne (c:Array Value) (v:Value) {o j:Nat} (h:o≠j):(c.setIfInBounds o v)[j]?=c[j]?:=Array.getElem?_setIfInBounds_ne h
theorem set_eq (c:Array Value) (v:Value) {o:Nat} (h:o < c.size):(c.setIfInBounds o v)[o]?=some v:=Array.getElem?_setIfInBounds_self_of_lt h
theorem PtC.set0 {c:Array Value} {a:PS} (q:PtC c a) (v:Int):PtC (c.setIfInBounds 0 (.int .u8 v)) { a with kind:=v }:=
 ⟨by simp [q.size],set_eq _ _ (by rw [q.size];decide),(set_ne _ _ (by decide)).trans q.c1,fun i hi=>(set_ne _ _ (by omega)).trans (q.set i hi),(set_ne _ _ (by decide)).trans q.c258,(set_ne _ _ (by decide)).trans q.c259,(set_ne _ _ (by decide)).trans q.c260,(set_ne _ _ (by decide)).trans q.c261,(set_ne _ _ (by decide)).trans q.c262,(set_ne _ _ (by decide)).trans q.c263⟩
theorem PtC.set1 {c:Array Value} {a:PS} (q:PtC c a) (v:Value):PtC (c.setIfInBounds 1 v) { a with l:=v }:=
 ⟨by simp [q.size],(set_ne _ _ (by decide)).trans q.c0,set_eq _ _ (by rw [q.size];decide),fun i hi=>(set_ne _ _ (by omega)).trans (q.set i hi),(set_ne _ _ (by decide)).trans q.c258,(set_ne _ _ (by decide)).trans q.c259,(set_ne _ _ (by decide)).trans q.c260,(set_ne _ _ (by decide)).trans q.c261,(set_ne _ _ (by decide)).trans q.c262,(set_ne _ _ (by decide)).trans q.c263⟩
theorem PtAt.set1 {w:World} {p:Nat} {a:PS} (h:PtAt w p a) (v:Value):PtAt (w.setCell ⟨p,1,none⟩ v) p { a with l:=v }:=by
 obtain⟨c,h,q⟩:=h
 exact⟨_,heap_set h 1 _,q.set1 v⟩
theorem PtC.set258 {c:Array Value} {a:PS} (q:PtC c a) (v:Bool):PtC (c.setIfInBounds 258 (.bool v)) { a with not:=v }:=
 ⟨by simp [q.size],(set_ne _ _ (by decide)).trans q.c0,(set_ne _ _ (by decide)).trans q.c1,fun i hi=>(set_ne _ _ (by omega)).trans (q.set i hi),set_eq _ _ (by rw [q.size];decide),(set_ne _ _ (by decide)).trans q.c259,(set_ne _ _ (by decide)).trans q.c260,(set_ne _ _ (by decide)).trans q.c261,(set_ne _ _ (by decide)).trans q.c262,(set_ne _ _ (by decide)).trans q.c263⟩
theorem PtAt.set258 {w:World} {p:Nat} {a:PS} (h:PtAt w p a) (v:Bool):PtAt (w.setCell ⟨p,258,none⟩ (.bool v)) p { a with not:=v }:=by
 obtain⟨c,h,q⟩:=h
 exact⟨_,heap_set h 258 _,q.set258 v⟩
theorem PtC.set259 {c:Array Value} {a:PS} (q:PtC c a) (v:Bool):PtC (c.setIfInBounds 259 (.bool v)) { a with dot:=v }:=
 ⟨by simp [q.size],(set_ne _ _ (by decide)).trans q.c0,(set_ne _ _ (by decide)).trans q.c1,fun i hi=>(set_ne _ _ (by omega)).trans (q.set i hi),(set_ne _ _ (by decide)).trans q.c258,set_eq _ _ (by rw [q.size];decide),(set_ne _ _ (by decide)).trans q.c260,(set_ne _ _ (by decide)).trans q.c261,(set_ne _ _ (by decide)).trans q.c262,(set_ne _ _ (by decide)).trans q.c263⟩
theorem PtC.set260 {c:Array Value} {a:PS} (q:PtC c a) (v:Bool):PtC (c.setIfInBounds 260 (.bool v)) { a with single:=v }:=
 ⟨by simp [q.size],(set_ne _ _ (by decide)).trans q.c0,(set_ne _ _ (by decide)).trans q.c1,fun i hi=>(set_ne _ _ (by omega)).trans (q.set i hi),(set_ne _ _ (by decide)).trans q.c258,(set_ne _ _ (by decide)).trans q.c259,set_eq _ _ (by rw [q.size];decide),(set_ne _ _ (by decide)).trans q.c261,(set_ne _ _ (by decide)).trans q.c262,(set_ne _ _ (by decide)).trans q.c263⟩
theorem PtC.set261 {c:Array Value} {a:PS} (q:PtC c a) (v:Bool):PtC (c.setIfInBounds 261 (.bool v)) { a with told:=v }:=
 ⟨by simp [q.size],(set_ne _ _ (by decide)).trans q.c0,(set_ne _ _ (by decide)).trans q.c1,fun i hi=>(set_ne _ _ (by omega)).trans (q.set i hi),(set_ne _ _ (by decide)).trans q.c258,(set_ne _ _ (by decide)).trans q.c259,(set_ne _ _ (by decide)).trans q.c260,set_eq _ _ (by rw [q.size];decide),(set_ne _ _ (by decide)).trans q.c262,(set_ne _ _ (by decide)).trans q.c263⟩
theorem PtAt.set261 {w:World} {p:Nat} {a:PS} (h:PtAt w p a) (v:Bool):PtAt (w.setCell ⟨p,261,none⟩ (.bool v)) p { a with told:=v }:=by
 obtain⟨c,h,q⟩:=h
 exact⟨_,heap_set h 261 _,q.set261 v⟩
theorem PtC.set262 {c:Array Value} {a:PS} (q:PtC c a) (v:Int):PtC (c.setIfInBounds 262 (.int .i64 v)) { a with min:=v }:=
 ⟨by simp [q.size],(set_ne _ _ (by decide)).trans q.c0,(set_ne _ _ (by decide)).trans q.c1,fun i hi=>(set_ne _ _ (by omega)).trans (q.set i hi),(set_ne _ _ (by decide)).trans q.c258,(set_ne _ _ (by decide)).trans q.c259,(set_ne _ _ (by decide)).trans q.c260,(set_ne _ _ (by decide)).trans q.c261,set_eq _ _ (by rw [q.size];decide),(set_ne _ _ (by decide)).trans q.c263⟩
theorem PtAt.set262 {w:World} {p:Nat} {a:PS} (h:PtAt w p a) (v:Int):PtAt (w.setCell ⟨p,262,none⟩ (.int .i64 v)) p { a with min:=v }:=by
 obtain⟨c,h,q⟩:=h
 exact⟨_,heap_set h 262 _,q.set262 v⟩
theorem PtC.set263 {c:Array Value} {a:PS} (q:PtC c a) (v:Int):PtC (c.setIfInBounds 263 (.int .i64 v)) { a with max:=v }:=
 ⟨by simp [q.size],(set_ne _ _ (by decide)).trans q.c0,(set_ne _ _ (by decide)).trans q.c1,fun i hi=>(set_ne _ _ (by omega)).trans (q.set i hi),(set_ne _ _ (by decide)).trans q.c258,(set_ne _ _ (by decide)).trans q.c259,(set_ne _ _ (by decide)).trans q.c260,(set_ne _ _ (by decide)).trans q.c261,(set_ne _ _ (by decide)).trans q.c262,set_eq _ _ (by rw [q.size];decide)⟩
theorem PtAt.set263 {w:World} {p:Nat} {a:PS} (h:PtAt w p a) (v:Int):PtAt (w.setCell ⟨p,263,none⟩ (.int .i64 v)) p { a with max:=v }:=by
 obtain⟨c,h,q⟩:=h
 exact⟨_,heap_set h 263 _,q.set263 v⟩
theorem PtAt.setSet {w:World} {p:Nat} {a:PS} (h:PtAt w p a) (k:Nat) (hk:k < 256) (v:Bool):PtAt (w.setCell ⟨p,2+k,none⟩ (.bool v)) p { a with set:=fun i=>if i=k then v else a.set i }:=by
 obtain⟨c,h,q⟩:=h
 refine⟨_,heap_set h (2+k) _,⟨by simp [q.size],(set_ne _ _ (by omega)).trans q.c0,(set_ne _ _ (by omega)).trans q.c1,fun i hi=>?_,(set_ne _ _ (by omega)).trans q.c258,(set_ne _ _ (by omega)).trans q.c259,(set_ne _ _ (by omega)).trans q.c260,(set_ne _ _ (by omega)).trans q.c261,(set_ne _ _ (by omega)).trans q.c262,(set_ne _ _ (by omega)).trans q.c263⟩⟩
 by_cases e:i=k
 ·subst e;rw [set_eq _ _ (by rw [q.size];omega)];simp
 ·rw [set_ne _ _ (by omega),q.set i hi];simp [e]
theorem PtAt.congr {w:World} {p:Nat} {a:PS} (h:PtAt w p a) (f:Nat→Bool) (hf:∀ i,i < 256→f i=a.set i):PtAt w p { a with set:=f }:=by
 obtain⟨c,h,q⟩:=h
 exact⟨c,h,⟨q.size,q.c0,q.c1,fun i hi=>(q.set i hi).trans (by simp [hf i hi]),q.c258,q.c259,q.c260,q.c261,q.c262,q.c263⟩⟩
def PS.zero:PS:={ kind:=0,l:=.slice none 0 0,set:=fun _=>false,not:=false,dot:=false,single:=false,told:=false,min:=0,max:=0 }
theorem zeroPart:Tryz.zeroCells126=#[.int .u8 0,.slice none 0 0]++Array.replicate 256 (.bool false)++#[.bool false,.bool false,.bool false,.bool false,.int .i64 0,.int .i64 0]:=by kernel_rfl
theorem PtC.zero:PtC Tryz.zeroCells126 PS.zero:=by
 rw [zeroPart]
 refine⟨by simp,?_,?_,fun i hi=>?_,?_,?_,?_,?_,?_,?_⟩
 case refine_3=>
  rw [Array.getElem?_append_left (by simp;omega),Array.getElem?_append_right (by simp)]
  simp [PS.zero,hi]
 all_goals simp [PS.zero]
theorem PtAt.new {w:World} {c:Array Value} {a:PS} (q:PtC c a):PtAt (w.alloc (.cells c 126)) w.heap.size a:=⟨c,by show (w.heap.push _)[w.heap.size]?=_;simp,q⟩
end Go.Proofs.YtcpfpnjkfahjcaaGreat
