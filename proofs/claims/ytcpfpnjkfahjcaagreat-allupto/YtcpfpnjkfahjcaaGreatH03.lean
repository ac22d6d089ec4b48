import Derived.Test.YtcpfpnjkfahjcaaGreatH01
import Derived.OwnWalk
set_option linter.unusedSimpArgs false
set_option linter.unusedVariables false
namespace Go.Proofs.YtcpfpnjkfahjcaaGreat
open Go.RowKit
def pdCells (s:ByteArray) (x:RS):Array Value:=#[.string s,.int .i64 x.i,.int .i64 x.d,.int .i64 x.t,.int .i64 x.e,.int .i64 x.a]
def PdAt (w:World) (r:Nat) (s:ByteArray) (x:RS):Prop:=w.heap[r]?=some (.cells (pdCells s x) 111 (0,0))
structure PdFacts (w:World) (r:Nat) (s:ByteArray) (x:RS):Prop where
 c0:w.cell? ⟨r,0,none⟩=some (.string s)
 c1:w.cell? ⟨r,1,none⟩=some (.int .i64 x.i)
 c2:w.cell? ⟨r,2,none⟩=some (.int .i64 x.d)
 c3:w.cell? ⟨r,3,none⟩=some (.int .i64 x.t)
 c4:w.cell? ⟨r,4,none⟩=some (.int .i64 x.e)
 c5:w.cell? ⟨r,5,none⟩=some (.int .i64 x.a)
 fz:∀ o,w.frozen? ⟨r,o,none⟩=false
theorem PdAt.facts {w:World} {r:Nat} {s:ByteArray} {x:RS} (h:PdAt w r s x):PdFacts w r s x:=by
 unfold PdAt pdCells at h
 refine⟨?_,?_,?_,?_,?_,?_,?_⟩<;>(try intro o)<;>simp [World.cell?,World.frozen?,h]
theorem PdAt.set1 {w:World} {r:Nat} {s:ByteArray} {x:RS} (h:PdAt w r s x) (v:Nat):PdAt (w.setCell ⟨r,1,none⟩ (.int .i64 v)) r s { x with i:=v }:=heap_set h 1 _
theorem PdAt.set2 {w:World} {r:Nat} {s:ByteArray} {x:RS} (h:PdAt w r s x) (v:Int):PdAt (w.setCell ⟨r,2,none⟩ (.int .i64 v)) r s { x with d:=v }:=heap_set h 2 _
theorem PdAt.set3 {w:World} {r:Nat} {s:ByteArray} {x:RS} (h:PdAt w r s x) (v:Int):PdAt (w.setCell ⟨r,3,none⟩ (.int .i64 v)) r s { x with t:=v }:=heap_set h 3 _
theorem PdAt.set4 {w:World} {r:Nat} {s:ByteArray} {x:RS} (h:PdAt w r s x) (v:Int):PdAt (w.setCell ⟨r,4,none⟩ (.int .i64 v)) r s { x with e:=v }:=heap_set h 4 _
theorem PdAt.set5 {w:World} {r:Nat} {s:ByteArray} {x:RS} (h:PdAt w r s x) (v:Int):PdAt (w.setCell ⟨r,5,none⟩ (.int .i64 v)) r s { x with a:=v }:=heap_set h 5 _
set_option maxHeartbeats 400000 in
theorem pAtEnd_any (r:Nat) (s:ByteArray) (x:RS) (w:World) (h:PdAt w r s x) :
  Calls Tryz.prog 61 #[.pointer (some ⟨r,0,none⟩)] w fun e w'=>e=.returned (.bool (decide (x.i=s.size)))∧∃ n,w'=w.drewN n:=by
 obtain⟨c0,c1,c2,c3,c4,c5,fz⟩:=h.facts
 clear h
 go_enter Tryz.func61,Tryz.ntmps61
 go_wp2
 go_quiet (fail)
 go_wp2
 go_ret
 exact⟨ret_bool (by rw [Bool.eq_iff_iff];simp;omega),_,rfl⟩
theorem PdAt.drewN {w:World} {r:Nat} {s:ByteArray} {x:RS} (h:PdAt w r s x) (n:Nat):PdAt (w.drewN n) r s x:=h
theorem pAtEnd_no (r:Nat) (s:ByteArray) (x:RS) (w:World) (h:PdAt w r s x) (hi:x.i < s.size) :
  Calls Tryz.prog 61 #[.pointer (some ⟨r,0,none⟩)] w fun e w'=>e=.returned (.bool false)∧∃ n,w'=w.drewN n:=
 (pAtEnd_any r s x w h).mono fun e w' q=>⟨by rw [q.1];simp;omega,q.2⟩
theorem pAtEnd_yes (r:Nat) (s:ByteArray) (x:RS) (w:World) (h:PdAt w r s x) (hi:x.i=s.size) :
  Calls Tryz.prog 61 #[.pointer (some ⟨r,0,none⟩)] w fun e w'=>e=.returned (.bool true)∧∃ n,w'=w.drewN n:=
 (pAtEnd_any r s x w h).mono fun e w' q=>⟨by rw [q.1];simp [hi],q.2⟩
set_option maxHeartbeats 400000 in
theorem pNext_any (r:Nat) (s:ByteArray) (x:RS) (b:Int) (w:World) (h:PdAt w r s x) (hi:x.i≤s.size) :
  Calls Tryz.prog 103 #[.pointer (some ⟨r,0,none⟩),.int .u8 b] w fun e w'=>e=.returned (.bool (Sp.isAt s x.i b))∧∃ n,w'=w.drewN n:=by
 obtain⟨c0,c1,c2,c3,c4,c5,fz⟩:=h.facts
 have hh:Hid (PdAt w r s x):=h
 clear h
 by_cases hlt:x.i < s.size
 ·have hlt':(x.i:Int) < s.size:=by omega
  have HR:Hid (Sp.isAt s x.i b=((s[x.i].toNat:Int) == b)):=by show _=_;rw [isAt_ok hlt,Sp.byteAt_in s x.i hlt];rfl
  go_enter Tryz.func103,Tryz.ntmps103
  go_wp2_with fail
  go_quiet ((go_at_call 61;exact Calls.quiet_of (pAtEnd_no r s x _ hh.out hlt)))
  go_wp2
  go_ret
  exact⟨ret_bool HR.out.symm,_,rfl⟩
 ·have HE:Hid (x.i=s.size):=by show _=_;omega
  have HR:Hid (Sp.isAt s x.i b=false):=isAt_out hlt
  go_enter Tryz.func103,Tryz.ntmps103
  go_wp2_with fail
  go_quiet ((go_at_call 61;exact Calls.quiet_of (pAtEnd_yes r s x _ hh.out HE.out)))
  go_wp2
  go_ret
  exact⟨ret_bool HR.out.symm,_,rfl⟩
def TakeOut (r:Nat) (s:ByteArray) (x:RS) (b:Int) (w:World) (e:Ending) (w':World):Prop:=
 e=.returned (.bool (Sp.isAt s x.i b))∧Upd [r] w w'∧PdAt w' r s (x.adv (Sp.isAt s x.i b))
set_option maxHeartbeats 400000 in
theorem pTake_any (r:Nat) (s:ByteArray) (x:RS) (b:Int) (w:World) (h:PdAt w r s x) (hi:x.i≤s.size) (hs:s.size≤200) :
  Calls Tryz.prog 83 #[.pointer (some ⟨r,0,none⟩),.int .u8 b] w (TakeOut r s x b w):=by
 obtain⟨c0,c1,c2,c3,c4,c5,fz⟩:=h.facts
 have hh:Hid (PdAt w r s x):=h
 clear h
 cases hb:Sp.isAt s x.i b with
 | true=>
  have HB:Hid (Sp.isAt s x.i b=true):=hb
  go_enter Tryz.func83,Tryz.ntmps83
  go_wp2_with fail
  refine (pNext_any r s x b _ (by exact hh.out) hi).mono ?_
  rintro e w1 ⟨rfl,n,rfl⟩
  go_wp2
  go_ret
  exact⟨ret_bool HB.out.symm,by (repeat (first|exact Upd.refl _ _|refine Upd.drewN ?_|refine Upd.drew ?_|refine Upd.setCell ?_ (by simp) _|refine Upd.alloc ?_ _)),by rw [HB.out];exact (hh.out.drewN n).set1 (x.i+1)⟩
 | false=>
  have HB:Hid (Sp.isAt s x.i b=false):=hb
  go_enter Tryz.func83,Tryz.ntmps83
  go_wp2_with fail
  refine (pNext_any r s x b _ (by exact hh.out) hi).mono ?_
  rintro e w1 ⟨rfl,n,rfl⟩
  go_wp2
  go_ret
  exact⟨ret_bool HB.out.symm,by (repeat (first|exact Upd.refl _ _|refine Upd.drewN ?_|refine Upd.drew ?_|refine Upd.setCell ?_ (by simp) _|refine Upd.alloc ?_ _)),by rw [HB.out];exact hh.out.drewN n⟩
def RefuseOut (r:Nat) (s:ByteArray) (x:RS) (c at':Int) (w:World) (e:Ending) (w':World):Prop:=
 e=.returned (.bool false)∧Upd [r] w w'∧PdAt w' r s { x with e:=c,a:=at' }
set_option maxHeartbeats 400000 in
theorem pRefuse_any (r:Nat) (s:ByteArray) (x:RS) (c at':Int) (w:World) (h:PdAt w r s x) :
  Calls Tryz.prog 62 #[.pointer (some ⟨r,0,none⟩),.int .i64 c,.int .i64 at'] w (RefuseOut r s x c at' w):=by
 obtain⟨c0,c1,c2,c3,c4,c5,fz⟩:=h.facts
 have hh:Hid (PdAt w r s x):=h
 clear h
 go_enter Tryz.func62,Tryz.ntmps62
 go_wp2
 go_ret
 exact⟨rfl,by (repeat (first|exact Upd.refl _ _|refine Upd.drewN ?_|refine Upd.drew ?_|refine Upd.setCell ?_ (by simp) _|refine Upd.alloc ?_ _)),(hh.out.set4 c).set5 at'⟩
def NeedOut (r:Nat) (s:ByteArray) (x:RS) (b:Int) (w:World) (e:Ending) (w':World):Prop:=
 e=.returned (.bool (Sp.isAt s x.i b))∧Upd [r] w w'∧PdAt w' r s (if Sp.isAt s x.i b then { x with i:=x.i+1 } else { x with e:=3,a:=x.i })
set_option maxHeartbeats 400000 in
theorem pNeed_any (r:Nat) (s:ByteArray) (x:RS) (b:Int) (w:World) (h:PdAt w r s x) (hi:x.i≤s.size) (hs:s.size≤200) :
  Calls Tryz.prog 130 #[.pointer (some ⟨r,0,none⟩),.int .u8 b] w (NeedOut r s x b w):=by
 have hh:Hid (PdAt w r s x):=h
 clear h
 cases hb:Sp.isAt s x.i b with
 | true=>
  have HB:Hid (Sp.isAt s x.i b=true):=hb
  clear hb
  go_enter Tryz.func130,Tryz.ntmps130
  go_wp2_with fail
  refine (pTake_any r s x b _ (by exact hh.out) hi hs).mono ?_
  rintro e w1 ⟨rfl,hu1,hf1⟩
  rw [HB.out] at hf1 ⊢
  go_wp2_with fail
  go_ret
  exact⟨ret_bool HB.out.symm,hu1,by rw [HB.out];exact hf1⟩
 | false=>
  have HB:Hid (Sp.isAt s x.i b=false):=hb
  clear hb
  go_enter Tryz.func130,Tryz.ntmps130
  go_wp2_with fail
  refine (pTake_any r s x b _ (by exact hh.out) hi hs).mono ?_
  rintro e w1 ⟨rfl,hu1,hf1⟩
  rw [HB.out] at hf1 ⊢
  have HF1:Hid (PdAt w1 r s x):=hf1
  have HU1:Hid (Upd [r] w w1):=hu1
  obtain⟨c0,c1,c2,c3,c4,c5,fz⟩:=PdAt.facts HF1.out
  clear hf1 hu1
  go_wp2_with fail
  refine (pRefuse_any r s x _ _ _ (by exact HF1.out)).mono ?_
  rintro e w2 ⟨rfl,hu2,hf2⟩
  go_wp2_with fail
  go_ret
  exact⟨ret_bool HB.out.symm,HU1.out.trans hu2,by rw [HB.out];exact hf2⟩
theorem digitAt_ok {s:ByteArray} {i:Nat} (hi:i < s.size):Sp.digitAt s i=(decide (48≤(s[i].toNat:Int)) && decide ((s[i].toNat:Int)≤57)):=by
 simp [Sp.digitAt,hi,Sp.byteAt_in s i hi]
theorem digitAt_out {s:ByteArray} {i:Nat} (hi:¬ i < s.size):Sp.digitAt s i=false:=by simp [Sp.digitAt,hi]
theorem digitAt_lt {s:ByteArray} {i:Nat} (h:Sp.digitAt s i=true):i < s.size:=by simp [Sp.digitAt] at h;exact h.1.1
theorem digitAt_bd {s:ByteArray} {i:Nat} (h:Sp.digitAt s i=true):48≤Sp.byteAt s i∧Sp.byteAt s i≤57:=by simp [Sp.digitAt] at h;exact⟨h.1.2,h.2⟩
set_option maxHeartbeats 400000 in
theorem pDigitNext_any (r:Nat) (s:ByteArray) (x:RS) (w:World) (h:PdAt w r s x) (hi:x.i≤s.size) :
  Calls Tryz.prog 138 #[.pointer (some ⟨r,0,none⟩)] w fun e w'=>e=.returned (.bool (Sp.digitAt s x.i))∧∃ n,w'=w.drewN n:=by
 obtain⟨c0,c1,c2,c3,c4,c5,fz⟩:=h.facts
 have hh:Hid (PdAt w r s x):=h
 clear h
 by_cases hlt:x.i < s.size
 ·have hlt':(x.i:Int) < s.size:=by omega
  have HR:Hid (Sp.digitAt s x.i=(decide (48≤(s[x.i].toNat:Int)) && decide ((s[x.i].toNat:Int)≤57))):=digitAt_ok hlt
  by_cases h48:48≤(s[x.i].toNat:Int)
  ·have hd48:decide (48≤(s[x.i].toNat:Int))=true:=decide_eq_true h48
   go_enter Tryz.func138,Tryz.ntmps138
   go_wp2_with fail
   go_quiet ((go_at_call 61;exact Calls.quiet_of (pAtEnd_no r s x _ hh.out hlt)))
   go_wp2
   go_ret
   exact⟨ret_bool (by rw [HR.out,Bool.eq_iff_iff];simp;omega),_,rfl⟩
  ·have hd48:decide (48≤(s[x.i].toNat:Int))=false:=decide_eq_false h48
   go_enter Tryz.func138,Tryz.ntmps138
   go_wp2_with fail
   go_quiet ((go_at_call 61;exact Calls.quiet_of (pAtEnd_no r s x _ hh.out hlt)))
   go_wp2
   go_ret
   exact⟨ret_bool (by rw [HR.out,Bool.eq_iff_iff];simp;omega),_,rfl⟩
 ·have HE:Hid (x.i=s.size):=by show _=_;omega
  have HR:Hid (Sp.digitAt s x.i=false):=digitAt_out hlt
  go_enter Tryz.func138,Tryz.ntmps138
  go_wp2_with fail
  go_quiet ((go_at_call 61;exact Calls.quiet_of (pAtEnd_yes r s x _ hh.out HE.out)))
  go_wp2
  go_ret
  exact⟨ret_bool HR.out.symm,_,rfl⟩
def DigitOut (r:Nat) (s:ByteArray) (x:RS) (w:World) (e:Ending) (w':World):Prop:=
 e=.returned (.int .i64 (Sp.byteAt s x.i - 48))∧Upd [r] w w'∧PdAt w' r s { x with i:=x.i+1 }
set_option maxHeartbeats 400000 in
theorem pDigit_any (r:Nat) (s:ByteArray) (x:RS) (w:World) (h:PdAt w r s x) (hs:s.size≤200) (hd:Sp.digitAt s x.i=true) :
  Calls Tryz.prog 139 #[.pointer (some ⟨r,0,none⟩)] w (DigitOut r s x w):=by
 obtain⟨c0,c1,c2,c3,c4,c5,fz⟩:=h.facts
 have hh:Hid (PdAt w r s x):=h
 clear h
 have hlt:=digitAt_lt hd
 have HB:Hid (Sp.byteAt s x.i=(s[x.i].toNat:Int)):=Sp.byteAt_in s x.i hlt
 have hb0:48≤(s[x.i].toNat:Int):=by rw [← HB.out];exact (digitAt_bd hd).1
 have hb1:(s[x.i].toNat:Int)≤57:=by rw [← HB.out];exact (digitAt_bd hd).2
 clear hd
 go_enter Tryz.func139,Tryz.ntmps139
 go_wp2
 go_quiet (fail)
 go_wp2
 go_ret
 exact⟨ret_int (by rw [HB.out]),by (repeat (first|exact Upd.refl _ _|refine Upd.drewN ?_|refine Upd.drew ?_|refine Upd.setCell ?_ (by simp) _|refine Upd.alloc ?_ _)),hh.out.set1 (x.i+1)⟩
def PNumOut (K:IntKind) (r:Nat) (s:ByteArray) (x:RS) (w:World) (res:Sp.Res (Int×Nat)) (k:Ending) (w':World):Prop:=
 Upd [r] w w'∧match res with
 | .ok (v,j)=>k=.returned (.tuple #[.int K v,.bool true])∧PdAt w' r s { x with i:=j }
 | .error (e,a)=>∃ v i',k=.returned (.tuple #[.int K v,.bool false])∧PdAt w' r s { x with i:=i',e:=e,a:=a }
theorem PNumOut.mk_ok {K:IntKind} {r:Nat} {s:ByteArray} {x:RS} {w w':World} {res:Sp.Res (Int×Nat)} {k:Ending} (v:Int) (j:Nat) (h:res=.ok (v,j)) (u:Upd [r] w w') (hk:k=.returned (.tuple #[.int K v,.bool true])) (hr:PdAt w' r s { x with i:=j }):PNumOut K r s x w res k w':=by
 subst h;exact⟨u,hk,hr⟩
theorem PNumOut.mk_error {K:IntKind} {r:Nat} {s:ByteArray} {x:RS} {w w':World} {res:Sp.Res (Int×Nat)} {k:Ending} (e a:Int) (v:Int) (i':Nat) (h:res=.error (e,a)) (u:Upd [r] w w') (hk:k=.returned (.tuple #[.int K v,.bool false])) (hr:PdAt w' r s { x with i:=i',e:=e,a:=a }):PNumOut K r s x w res k w':=by
 subst h;exact⟨u,v,i',hk,hr⟩
theorem num_no {s:ByteArray} {i j:Nat} {least n:Int} (hd:Sp.digitAt s i=true) (hn:Sp.digits s i=(n,j)) (h:20 < n∨n < least):Sp.number least s i=.error (4,i):=by
 unfold Sp.number;rw [hd,if_pos rfl,hn,if_pos h]
theorem num_ok {s:ByteArray} {i j:Nat} {least n:Int} (hd:Sp.digitAt s i=true) (hn:Sp.digits s i=(n,j)) (h:¬ (20 < n∨n < least)):Sp.number least s i=.ok (n,j):=by
 unfold Sp.number;rw [hd,if_pos rfl,hn,if_neg h]
theorem dig_two {s:ByteArray} {i:Nat} {v u:Int} (hv:v=Sp.byteAt s i - 48) (hu:u=Sp.byteAt s (i+1) - 48) (h:0 < v) (hd:Sp.digitAt s (i+1)=true):Sp.digits s i=(10 * v+u,i+2):=by
 subst hv hu;unfold Sp.digits;rw [if_pos ⟨h,hd⟩]
theorem dig_one {s:ByteArray} {i:Nat} {v:Int} (hv:v=Sp.byteAt s i - 48) (h:¬ (0 < v∧Sp.digitAt s (i+1)=true)):Sp.digits s i=(v,i+1):=by
 subst hv;unfold Sp.digits;rw [if_neg (fun q=>h ⟨q.1,q.2⟩)]
set_option maxHeartbeats 400000 in
theorem pNumber_no (r:Nat) (s:ByteArray) (x:RS) (least:Int) (w:World) (h:PdAt w r s x) (hi:x.i≤s.size) (hs:s.size≤200) (hd:Sp.digitAt s x.i=false) :
  Calls Tryz.prog 128 #[.pointer (some ⟨r,0,none⟩),.int .i64 least] w (PNumOut .i64 r s x w (Sp.number least s x.i)):=by
 obtain⟨c0,c1,c2,c3,c4,c5,fz⟩:=h.facts
 have hh:Hid (PdAt w r s x):=h
 have HD:Hid (Sp.digitAt s x.i=false):=hd
 have HR:Hid (Sp.number least s x.i=.error (3,x.i)):=by show _=_;unfold Sp.number;rw [hd,if_neg (by simp)]
 clear h hd
 go_enter Tryz.func128,Tryz.ntmps128
 go_wp2_with fail
 refine (pDigitNext_any r s x _ (by exact hh.out) hi).mono ?_
 rw [HD.out]
 rintro e w1 ⟨rfl,n,rfl⟩
 go_wp2_with fail
 refine (pRefuse_any r s x _ _ _ (by exact hh.out.drewN n)).mono ?_
 rintro e w2 ⟨rfl,hu,hf⟩
 go_wp2_with fail
 go_ret2
 exact PNumOut.mk_error _ _ 0 x.i HR.out ((drewN_upd _ _ _).trans hu) rfl hf
set_option maxHeartbeats 800000 in
theorem pNumber_yes (r:Nat) (s:ByteArray) (x:RS) (least:Int) (w:World) (h:PdAt w r s x) (hi:x.i≤s.size) (hs:s.size≤200) (hd:Sp.digitAt s x.i=true) (hl0:0≤least) (hl1:least≤20) :
  Calls Tryz.prog 128 #[.pointer (some ⟨r,0,none⟩),.int .i64 least] w (PNumOut .i64 r s x w (Sp.number least s x.i)):=by
 obtain⟨c0,c1,c2,c3,c4,c5,fz⟩:=h.facts
 have hh:Hid (PdAt w r s x):=h
 have HD:Hid (Sp.digitAt s x.i=true):=hd
 have hlt:=digitAt_lt hd
 obtain⟨v,HV⟩:∃ v,Hid (v=Sp.byteAt s x.i - 48):=⟨_,rfl⟩
 have hv0:0≤v:=by rw [HV.out];have:=digitAt_bd hd;omega
 have hv1:v≤9:=by rw [HV.out];have:=digitAt_bd hd;omega
 clear h hd
 go_enter Tryz.func128,Tryz.ntmps128
 go_wp2_with fail
 refine (pDigitNext_any r s x _ (by exact hh.out) hi).mono ?_
 rw [HD.out]
 rintro e w1 ⟨rfl,n,rfl⟩
 go_wp2_with fail
 refine (pDigit_any r s x _ (by exact hh.out.drewN n) hs HD.out).mono ?_
 rintro e w2 ⟨rfl,hu,hf⟩
 rw [← HV.out]
 have HU2:Hid (Upd [r] w w2):=((drewN_upd _ _ _).trans hu:Upd [r] w w2)
 have HF2:Hid (PdAt w2 r s ⟨x.i+1,x.e,x.a,x.d,x.t⟩):=hf
 obtain⟨d0,d1,d2,d3,d4,d5,dz⟩:=HF2.out.facts
 clear hu hf c0 c1 c2 c3 c4 c5 fz
 by_cases hz:0 < v
 ·go_wp2_with fail
  refine (pDigitNext_any r s ⟨x.i+1,x.e,x.a,x.d,x.t⟩ _ (by exact HF2.out) (by show x.i+1≤_;omega)).mono ?_
  rintro e w3 ⟨rfl,n3,rfl⟩
  cases hd2:Sp.digitAt s (x.i+1) with
  | true=>
   have HD2:Hid (Sp.digitAt s (x.i+1)=true):=hd2
   obtain⟨u,HW⟩:∃ u,Hid (u=Sp.byteAt s (x.i+1) - 48):=⟨_,rfl⟩
   have hu0:0≤u:=by rw [HW.out];have:=digitAt_bd hd2;omega
   have hu1:u≤9:=by rw [HW.out];have:=digitAt_bd hd2;omega
   have HN:Hid (Sp.digits s x.i=(10 * v+u,x.i+2)):=dig_two HV.out HW.out hz hd2
   clear hd2
   go_wp2_with fail
   refine (pDigit_any r s ⟨x.i+1,x.e,x.a,x.d,x.t⟩ _ (by exact HF2.out.drewN n3) hs HD2.out).mono ?_
   rintro e w4 ⟨rfl,hu,hf⟩
   rw [← HW.out]
   have HU4:Hid (Upd [r] w w4):=((HU2.out.trans (drewN_upd _ _ _)).trans hu:Upd [r] w w4)
   have HF4:Hid (PdAt w4 r s ⟨x.i+2,x.e,x.a,x.d,x.t⟩):=hf
   clear hu hf
   go_wp2_with (go_at_call 62;refine (pRefuse_any r s ⟨x.i+2,x.e,x.a,x.d,x.t⟩ _ _ _ (by exact HF4.out)).mono ?_;rintro e w5 ⟨rfl,hu5,hf5⟩)
   all_goals go_ret2
   all_goals first
    | exact PNumOut.mk_error _ _ 0 (x.i+2) (num_no HD.out HN.out (by omega)) (HU4.out.trans hu5) rfl hf5
    | exact PNumOut.mk_ok _ (x.i+2) (num_ok HD.out HN.out (by omega)) HU4.out rfl HF4.out
  | false=>
   have HN:Hid (Sp.digits s x.i=(v,x.i+1)):=dig_one HV.out (by rw [hd2];simp)
   have HD2:Hid (Sp.digitAt s (x.i+1)=false):=hd2
   clear hd2
   go_wp2_with (go_at_call 62;refine (pRefuse_any r s ⟨x.i+1,x.e,x.a,x.d,x.t⟩ _ _ _ (by exact HF2.out.drewN n3)).mono ?_;rintro e w5 ⟨rfl,hu5,hf5⟩)
   all_goals go_ret2
   all_goals first
    | exact PNumOut.mk_error _ _ 0 (x.i+1) (num_no HD.out HN.out (by omega)) ((HU2.out.trans (drewN_upd _ _ _)).trans hu5) rfl hf5
    | exact PNumOut.mk_ok _ (x.i+1) (num_ok HD.out HN.out (by omega)) (HU2.out.trans (drewN_upd _ _ _)) rfl (HF2.out.drewN n3)
 ·have HN:Hid (Sp.digits s x.i=(v,x.i+1)):=dig_one HV.out (fun q=>hz q.1)
  go_wp2_with (go_at_call 62;refine (pRefuse_any r s ⟨x.i+1,x.e,x.a,x.d,x.t⟩ _ _ _ (by exact HF2.out)).mono ?_;rintro e w5 ⟨rfl,hu5,hf5⟩)
  all_goals go_ret2
  all_goals first
   | exact PNumOut.mk_error _ _ 0 (x.i+1) (num_no HD.out HN.out (by omega)) (HU2.out.trans hu5) rfl hf5
   | exact PNumOut.mk_ok _ (x.i+1) (num_ok HD.out HN.out (by omega)) HU2.out rfl HF2.out
theorem pNumber_any (r:Nat) (s:ByteArray) (x:RS) (least:Int) (w:World) (h:PdAt w r s x) (hi:x.i≤s.size) (hs:s.size≤200) (hl0:0≤least) (hl1:least≤20) :
  Calls Tryz.prog 128 #[.pointer (some ⟨r,0,none⟩),.int .i64 least] w (PNumOut .i64 r s x w (Sp.number least s x.i)):=by
 cases hd:Sp.digitAt s x.i with
 | true=>exact pNumber_yes r s x least w h hi hs hd hl0 hl1
 | false=>exact pNumber_no r s x least w h hi hs hd
def upperR (m:Int) (s:ByteArray) (i:Nat):Sp.Res (Int×Nat):=if Sp.digitAt s i then Sp.number m s i else .ok (-1,i)
set_option maxHeartbeats 400000 in
theorem pUpper_any (r:Nat) (s:ByteArray) (x:RS) (least:Int) (w:World) (h:PdAt w r s x) (hi:x.i≤s.size) (hs:s.size≤200) (hl0:0≤least) (hl1:least≤20) :
  Calls Tryz.prog 129 #[.pointer (some ⟨r,0,none⟩),.int .i64 least] w (PNumOut .i64 r s x w (upperR least s x.i)):=by
 obtain⟨c0,c1,c2,c3,c4,c5,fz⟩:=h.facts
 have hh:Hid (PdAt w r s x):=h
 clear h
 cases hd:Sp.digitAt s x.i with
 | true=>
  have HD:Hid (Sp.digitAt s x.i=true):=hd
  have HR:Hid (upperR least s x.i=Sp.number least s x.i):=by show _=_;unfold upperR;rw [hd,if_pos rfl]
  clear hd
  go_enter Tryz.func129,Tryz.ntmps129
  go_wp2_with fail
  refine (pDigitNext_any r s x _ (by exact hh.out) hi).mono ?_
  rw [HD.out]
  rintro e w1 ⟨rfl,n,rfl⟩
  go_wp2_with fail
  refine (pNumber_any r s x least _ (by exact hh.out.drewN n) hi hs hl0 hl1).mono ?_
  rintro e w2 ⟨hu,hq⟩
  revert hq
  cases hr:Sp.number least s x.i with
  | ok p=>
   obtain⟨v,j⟩:=p
   rintro ⟨rfl,hf⟩
   have HR':Hid (upperR least s x.i=.ok (v,j)):=HR.out.trans hr
   clear hr
   go_wp2
   go_ret2
   exact PNumOut.mk_ok v j HR'.out ((drewN_upd _ _ _).trans hu) rfl hf
  | error p=>
   obtain⟨e1,a1⟩:=p
   rintro ⟨v,i',rfl,hf⟩
   have HR':Hid (upperR least s x.i=.error (e1,a1)):=HR.out.trans hr
   clear hr
   go_wp2
   go_ret2
   exact PNumOut.mk_error e1 a1 v i' HR'.out ((drewN_upd _ _ _).trans hu) rfl hf
 | false=>
  have HD:Hid (Sp.digitAt s x.i=false):=hd
  have HR:Hid (upperR least s x.i=.ok (-1,x.i)):=by show _=_;unfold upperR;rw [hd,if_neg (by simp)]
  clear hd
  go_enter Tryz.func129,Tryz.ntmps129
  go_wp2_with fail
  refine (pDigitNext_any r s x _ (by exact hh.out) hi).mono ?_
  rw [HD.out]
  rintro e w1 ⟨rfl,n,rfl⟩
  go_wp2
  go_ret2
  exact PNumOut.mk_ok (-1) x.i HR.out (drewN_upd _ _ _) rfl (hh.out.drewN n)
def PTwoOut (K:IntKind) (r:Nat) (s:ByteArray) (x:RS) (w:World) (res:Sp.Res (Int×Int×Nat)) (k:Ending) (w':World):Prop:=
 Upd [r] w w'∧match res with
 | .ok (m,n,j)=>k=.returned (.tuple #[.int K m,.int K n,.bool true])∧PdAt w' r s { x with i:=j }
 | .error (e,a)=>∃ m n i',k=.returned (.tuple #[.int K m,.int K n,.bool false])∧PdAt w' r s { x with i:=i',e:=e,a:=a }
theorem PTwoOut.mk_ok {K:IntKind} {r:Nat} {s:ByteArray} {x:RS} {w w':World} {res:Sp.Res (Int×Int×Nat)} {k:Ending} (m n:Int) (j:Nat) (h:res=.ok (m,n,j)) (u:Upd [r] w w') (hk:k=.returned (.tuple #[.int K m,.int K n,.bool true])) (hr:PdAt w' r s { x with i:=j }):PTwoOut K r s x w res k w':=by
 subst h;exact⟨u,hk,hr⟩
theorem PTwoOut.mk_error {K:IntKind} {r:Nat} {s:ByteArray} {x:RS} {w w':World} {res:Sp.Res (Int×Int×Nat)} {k:Ending} (e a:Int) (m n:Int) (i':Nat) (h:res=.error (e,a)) (u:Upd [r] w w') (hk:k=.returned (.tuple #[.int K m,.int K n,.bool false])) (hr:PdAt w' r s { x with i:=i',e:=e,a:=a }):PTwoOut K r s x w res k w':=by
 subst h;exact⟨u,m,n,i',hk,hr⟩
theorem bounds_1 {s:ByteArray} {i:Nat} {f:Sp.Fault} (h:Sp.number 0 s i=.error f):Sp.bounds s i=.error f:=by unfold Sp.bounds;rw [h]
theorem bounds_2 {s:ByteArray} {i j:Nat} {m:Int} {f:Sp.Fault} (h:Sp.number 0 s i=.ok (m,j)) (h1:Sp.isAt s j 44=true) (h2:upperR m s (j+1)=.error f):Sp.bounds s i=.error f:=by
 unfold Sp.bounds;unfold upperR at h2;rw [h];simp only [h1]
 cases hd:Sp.digitAt s (j+1) with
 | true=>rw [hd,if_pos rfl] at h2;simp [h2]
 | false=>rw [hd,if_neg (by simp)] at h2;cases h2
theorem bounds_3 {s:ByteArray} {i j k:Nat} {m n:Int} (h:Sp.number 0 s i=.ok (m,j)) (h1:Sp.isAt s j 44=true) (h2:upperR m s (j+1)=.ok (n,k)):Sp.bounds s i=if Sp.isAt s k 125 then .ok (m,n,k+1) else .error (3,k):=by
 unfold Sp.bounds;unfold upperR at h2;rw [h];simp only [h1]
 cases hd:Sp.digitAt s (j+1) with
 | true=>rw [hd,if_pos rfl] at h2;simp only [h2,Sp.need];cases Sp.isAt s k 125<;>simp
 | false=>rw [hd,if_neg (by simp)] at h2;cases h2;simp only [Sp.need];cases Sp.isAt s (j+1) 125<;>simp
theorem bounds_4 {s:ByteArray} {i j:Nat} {m:Int} (h:Sp.number 0 s i=.ok (m,j)) (h1:Sp.isAt s j 44=false):Sp.bounds s i=if Sp.isAt s j 125 then .ok (m,m,j+1) else .error (3,j):=by
 unfold Sp.bounds;rw [h];simp only [h1,Sp.need];cases Sp.isAt s j 125<;>simp
theorem number_bd0 {m:Int} {s:ByteArray} {i j:Nat} {v:Int} (h:Sp.number m s i=.ok (v,j)):0≤v∧v≤20:=by
 unfold Sp.number at h
 split at h
 ·rename_i hd
  split at h
  ·cases h
  ·rename_i q
   have e:=Except.ok.inj h
   have:(Sp.digits s i).1=v:=by rw [e]
   refine⟨?_,by omega⟩
   rw [← this];have hb:=digitAt_bd hd
   unfold Sp.digits;split
   ·rename_i q2;have:=digitAt_bd q2.2;simp only;omega
   ·simp only;omega
 ·cases h
theorem upperR_in {m:Int} {s:ByteArray} {i j:Nat} {v:Int} (h:upperR m s i=.ok (v,j)) (hi:i≤s.size):j≤s.size:=by
 unfold upperR at h;split at h
 ·exact (Sp.number_in h).2
 ·cases h;exact hi
set_option maxHeartbeats 800000 in
theorem pBounds_any (r:Nat) (s:ByteArray) (x:RS) (w:World) (h:PdAt w r s x) (hi:x.i≤s.size) (hs:s.size≤200) :
  Calls Tryz.prog 118 #[.pointer (some ⟨r,0,none⟩)] w (PTwoOut .i64 r s x w (Sp.bounds s x.i)):=by
 have hh:Hid (PdAt w r s x):=h
 clear h
 cases hn:Sp.number 0 s x.i with
 | error p=>
  obtain⟨e1,a1⟩:=p
  have HN:Hid (Sp.number 0 s x.i=.error (e1,a1)):=hn
  have HR:Hid (Sp.bounds s x.i=.error (e1,a1)):=bounds_1 hn
  clear hn
  go_enter Tryz.func118,Tryz.ntmps118
  go_wp2_with fail
  refine (pNumber_any r s x 0 _ (by exact hh.out) hi hs (by omega) (by omega)).mono ?_
  rw [HN.out]
  rintro e w1 ⟨hu,v,i',rfl,hf⟩
  go_wp2_with fail
  go_ret3
  exact PTwoOut.mk_error _ _ 0 0 i' HR.out hu rfl hf
 | ok p=>
  obtain⟨m,j⟩:=p
  have HN:Hid (Sp.number 0 s x.i=.ok (m,j)):=hn
  have hj:j≤s.size:=(Sp.number_in hn).2
  obtain⟨hm0,hm1⟩:=number_bd0 hn
  clear hn
  cases h1:Sp.isAt s j 44 with
  | false=>
   have H1:Hid (Sp.isAt s j 44=false):=h1
   have HR:Hid (Sp.bounds s x.i=if Sp.isAt s j 125 then .ok (m,m,j+1) else .error (3,j)):=bounds_4 HN.out h1
   clear h1
   go_enter Tryz.func118,Tryz.ntmps118
   go_wp2_with fail
   refine (pNumber_any r s x 0 _ (by exact hh.out) hi hs (by omega) (by omega)).mono ?_
   rw [HN.out]
   rintro e w1 ⟨hu,rfl,hf⟩
   have HU1:Hid (Upd [r] w w1):=hu
   have HF1:Hid (PdAt w1 r s ⟨j,x.e,x.a,x.d,x.t⟩):=hf
   clear hu hf
   go_wp2_with fail
   refine (pTake_any r s ⟨j,x.e,x.a,x.d,x.t⟩ _ _ (by exact HF1.out) hj hs).mono ?_
   rintro e w2 ⟨rfl,hu2,hf2⟩
   rw [show Sp.isAt s _ 44=false from H1.out] at hf2 ⊢
   have HU2:Hid (Upd [r] w w2):=HU1.out.trans hu2
   have HF2:Hid (PdAt w2 r s ⟨j,x.e,x.a,x.d,x.t⟩):=hf2
   clear hu2 hf2
   go_wp2_with fail
   refine (pNeed_any r s ⟨j,x.e,x.a,x.d,x.t⟩ _ _ (by exact HF2.out) hj hs).mono ?_
   rintro e w3 ⟨rfl,hu3,hf3⟩
   cases h2:Sp.isAt s j 125 with
   | true=>
    rw [show Sp.isAt s _ 125=true from h2] at hf3
    have HR':Hid (Sp.bounds s x.i=.ok (m,m,j+1)):=by show _=_;rw [HR.out,h2];rfl
    clear h2
    go_wp2_with fail
    go_ret3
    exact PTwoOut.mk_ok m m (j+1) HR'.out (HU2.out.trans hu3) rfl hf3
   | false=>
    rw [show Sp.isAt s _ 125=false from h2] at hf3
    have HR':Hid (Sp.bounds s x.i=.error (3,j)):=by show _=_;rw [HR.out,h2];rfl
    clear h2
    go_wp2_with fail
    go_ret3
    exact PTwoOut.mk_error _ _ m m j HR'.out (HU2.out.trans hu3) rfl hf3
  | true=>
   have H1:Hid (Sp.isAt s j 44=true):=h1
   have hj1:j+1≤s.size:=Sp.isAt_lt h1
   clear h1
   cases h2:upperR m s (j+1) with
   | error p=>
    obtain⟨e1,a1⟩:=p
    have H2:Hid (upperR m s (j+1)=.error (e1,a1)):=h2
    have HR:Hid (Sp.bounds s x.i=.error (e1,a1)):=bounds_2 HN.out H1.out h2
    clear h2
    go_enter Tryz.func118,Tryz.ntmps118
    go_wp2_with fail
    refine (pNumber_any r s x 0 _ (by exact hh.out) hi hs (by omega) (by omega)).mono ?_
    rw [HN.out]
    rintro e w1 ⟨hu,rfl,hf⟩
    have HU1:Hid (Upd [r] w w1):=hu
    have HF1:Hid (PdAt w1 r s ⟨j,x.e,x.a,x.d,x.t⟩):=hf
    clear hu hf
    go_wp2_with fail
    refine (pTake_any r s ⟨j,x.e,x.a,x.d,x.t⟩ _ _ (by exact HF1.out) hj hs).mono ?_
    rintro e w2 ⟨rfl,hu2,hf2⟩
    rw [show Sp.isAt s _ 44=true from H1.out] at hf2 ⊢
    have HU2:Hid (Upd [r] w w2):=HU1.out.trans hu2
    have HF2:Hid (PdAt w2 r s ⟨j+1,x.e,x.a,x.d,x.t⟩):=hf2
    clear hu2 hf2
    go_wp2_with fail
    refine (pUpper_any r s ⟨j+1,x.e,x.a,x.d,x.t⟩ m _ (by exact HF2.out) hj1 hs hm0 hm1).mono ?_
    rw [show upperR m s _=_ from H2.out]
    rintro e w3 ⟨hu3,v,i',rfl,hf3⟩
    go_wp2_with fail
    go_ret3
    exact PTwoOut.mk_error _ _ 0 0 i' HR.out (HU2.out.trans hu3) rfl hf3
   | ok p=>
    obtain⟨n,k⟩:=p
    have H2:Hid (upperR m s (j+1)=.ok (n,k)):=h2
    have HR:Hid (Sp.bounds s x.i=if Sp.isAt s k 125 then .ok (m,n,k+1) else .error (3,k)):=bounds_3 HN.out H1.out h2
    have hk:k≤s.size:=upperR_in h2 hj1
    clear h2
    go_enter Tryz.func118,Tryz.ntmps118
    go_wp2_with fail
    refine (pNumber_any r s x 0 _ (by exact hh.out) hi hs (by omega) (by omega)).mono ?_
    rw [HN.out]
    rintro e w1 ⟨hu,rfl,hf⟩
    have HU1:Hid (Upd [r] w w1):=hu
    have HF1:Hid (PdAt w1 r s ⟨j,x.e,x.a,x.d,x.t⟩):=hf
    clear hu hf
    go_wp2_with fail
    refine (pTake_any r s ⟨j,x.e,x.a,x.d,x.t⟩ _ _ (by exact HF1.out) hj hs).mono ?_
    rintro e w2 ⟨rfl,hu2,hf2⟩
    rw [show Sp.isAt s _ 44=true from H1.out] at hf2 ⊢
    have HU2:Hid (Upd [r] w w2):=HU1.out.trans hu2
    have HF2:Hid (PdAt w2 r s ⟨j+1,x.e,x.a,x.d,x.t⟩):=hf2
    clear hu2 hf2
    go_wp2_with fail
    refine (pUpper_any r s ⟨j+1,x.e,x.a,x.d,x.t⟩ m _ (by exact HF2.out) hj1 hs hm0 hm1).mono ?_
    rw [show upperR m s _=_ from H2.out]
    rintro e w3 ⟨hu3,rfl,hf3⟩
    have HU3:Hid (Upd [r] w w3):=HU2.out.trans hu3
    have HF3:Hid (PdAt w3 r s ⟨k,x.e,x.a,x.d,x.t⟩):=hf3
    clear hu3 hf3
    go_wp2_with fail
    refine (pNeed_any r s ⟨k,x.e,x.a,x.d,x.t⟩ _ _ (by exact HF3.out) hk hs).mono ?_
    rintro e w4 ⟨rfl,hu4,hf4⟩
    cases h3:Sp.isAt s k 125 with
    | true=>
     rw [show Sp.isAt s _ 125=true from h3] at hf4
     have HR':Hid (Sp.bounds s x.i=.ok (m,n,k+1)):=by show _=_;rw [HR.out,h3];rfl
     clear h3
     go_wp2_with fail
     go_ret3
     exact PTwoOut.mk_ok m n (k+1) HR'.out (HU3.out.trans hu4) rfl hf4
    | false=>
     rw [show Sp.isAt s _ 125=false from h3] at hf4
     have HR':Hid (Sp.bounds s x.i=.error (3,k)):=by show _=_;rw [HR.out,h3];rfl
     clear h3
     go_wp2_with fail
     go_ret3
     exact PTwoOut.mk_error _ _ m n k HR'.out (HU3.out.trans hu4) rfl hf4
def hexD (s:ByteArray) (i:Nat):Sp.Res (Int×Nat):=if i < s.size∧0≤Sp.hex (Sp.byteAt s i) then .ok (Sp.hex (Sp.byteAt s i),i+1) else .error (3,i)
theorem hexD_ok {s:ByteArray} {i:Nat} {v:Int} (hi:i < s.size) (hv:Sp.hex (Sp.byteAt s i)=v) (h0:0≤v):hexD s i=.ok (v,i+1):=by
 subst hv;exact if_pos ⟨hi,h0⟩
theorem hexD_no {s:ByteArray} {i:Nat} (h:¬ (i < s.size∧0≤Sp.hex (Sp.byteAt s i))):hexD s i=.error (3,i):=if_neg h
theorem hexD_in {s:ByteArray} {i j:Nat} {v:Int} (h:hexD s i=.ok (v,j)):j=i+1∧i < s.size∧0≤v∧v≤15:=by
 unfold hexD at h;split at h
 ·rename_i q;cases h;exact⟨rfl,q.1,q.2,hex_hi _⟩
 ·cases h
theorem hexPair_d1 {s:ByteArray} {i:Nat} {f:Sp.Fault} (h:hexD s i=.error f):Sp.hexPair s i=.error f:=by
 unfold hexD at h;unfold Sp.hexPair;split at h
 ·cases h
 ·rename_i q;rw [if_neg q,← h]
theorem hexPair_d2 {s:ByteArray} {i j:Nat} {a:Int} {f:Sp.Fault} (h:hexD s i=.ok (a,j)) (k:hexD s j=.error f):Sp.hexPair s i=.error f:=by
 unfold hexD at h k;unfold Sp.hexPair;split at h
 ·rename_i q;cases h;rw [if_pos q];split at k
  ·cases k
  ·rename_i q2;rw [if_neg q2,← k]
 ·cases h
theorem hexPair_d3 {s:ByteArray} {i j k:Nat} {a b:Int} (h:hexD s i=.ok (a,j)) (g:hexD s j=.ok (b,k)):Sp.hexPair s i=.ok (16 * a+b,k):=by
 unfold hexD at h g;unfold Sp.hexPair;split at h
 ·rename_i q;cases h;rw [if_pos q];split at g
  ·rename_i q2;cases g;rw [if_pos q2]
  ·cases g
 ·cases h
set_option maxHeartbeats 800000 in
theorem pHexDigit_any (r:Nat) (s:ByteArray) (x:RS) (w:World) (h:PdAt w r s x) (hi:x.i≤s.size) (hs:s.size≤200) :
  Calls Tryz.prog 142 #[.pointer (some ⟨r,0,none⟩)] w (PNumOut .u8 r s x w (hexD s x.i)):=by
 obtain⟨c0,c1,c2,c3,c4,c5,fz⟩:=h.facts
 have hh:Hid (PdAt w r s x):=h
 clear h
 by_cases hlt:x.i < s.size
 ·have HB:Hid (Sp.byteAt s x.i=(s[x.i].toNat:Int)):=Sp.byteAt_in s x.i hlt
  go_enter Tryz.func142,Tryz.ntmps142
  go_wp2_with fail
  refine (pAtEnd_no r s x _ (by exact hh.out) hlt).mono ?_
  rintro e w1 ⟨rfl,n,rfl⟩
  go_wp2_with fail
  go_quiet (fail)
  go_wp2_with (go_at_call 62;refine (pRefuse_any r s ⟨x.i+1,x.e,x.a,x.d,x.t⟩ _ _ _ (by exact (hh.out.drewN n).set1 (x.i+1))).mono ?_;rintro e w5 ⟨rfl,hu5,hf5⟩)
  all_goals go_ret2
  all_goals first
   | exact PNumOut.mk_ok _ (x.i+1) (by exact hexD_ok hlt (by rw [HB.out];unfold Sp.hex;(repeat' split)<;>omega) (by omega)) (by (repeat (first|exact Upd.refl _ _|refine Upd.drewN ?_|refine Upd.drew ?_|refine Upd.setCell ?_ (by simp) _|refine Upd.alloc ?_ _))) rfl ((hh.out.drewN n).set1 (x.i+1))
   | exact PNumOut.mk_error _ _ 0 (x.i+1) (hexD_no (fun q=>by have q2:=q.2;rw [HB.out] at q2;unfold Sp.hex at q2;(repeat' split at q2)<;>omega)) (by refine Upd.trans ?_ hu5;(repeat (first|exact Upd.refl _ _|refine Upd.drewN ?_|refine Upd.drew ?_|refine Upd.setCell ?_ (by simp) _|refine Upd.alloc ?_ _))) rfl (by simpa using hf5)
 ·have HE:Hid (x.i=s.size):=by show _=_;omega
  go_enter Tryz.func142,Tryz.ntmps142
  go_wp2_with fail
  refine (pAtEnd_yes r s x _ (by exact hh.out) HE.out).mono ?_
  rintro e w1 ⟨rfl,n,rfl⟩
  go_wp2_with fail
  refine (pRefuse_any r s x _ _ _ (by exact hh.out.drewN n)).mono ?_
  rintro e w2 ⟨rfl,hu,hf⟩
  go_wp2_with fail
  go_ret2
  exact PNumOut.mk_error _ _ 0 x.i (hexD_no (fun q=>hlt q.1)) ((drewN_upd _ _ _).trans hu) rfl hf
theorem or_all:((List.range 16).all fun a=>(List.range 16).all fun b=>bits BinOp.or IntKind.u8 ((a:Int) * 16) (b:Int) == 16 * (a:Int)+b)=true:=by kernel_rfl
theorem or_hex {a b:Int} (h0:0≤a) (h1:a≤15) (k0:0≤b) (k1:b≤15):bits BinOp.or IntKind.u8 (a * 16) b=16 * a+b:=by
 obtain⟨m,rfl⟩:=Int.eq_ofNat_of_zero_le h0
 obtain⟨n,rfl⟩:=Int.eq_ofNat_of_zero_le k0
 have h:=or_all
 rw [List.all_eq_true] at h
 have h2:=h m (List.mem_range.2 (by omega))
 rw [List.all_eq_true] at h2
 have h3:=h2 n (List.mem_range.2 (by omega))
 simpa using h3
set_option maxHeartbeats 800000 in
theorem pHexPair_any (r:Nat) (s:ByteArray) (x:RS) (w:World) (h:PdAt w r s x) (hi:x.i≤s.size) (hs:s.size≤200) :
  Calls Tryz.prog 140 #[.pointer (some ⟨r,0,none⟩)] w (PNumOut .u8 r s x w (Sp.hexPair s x.i)):=by
 have hh:Hid (PdAt w r s x):=h
 clear h
 cases h1:hexD s x.i with
 | error p=>
  obtain⟨e1,a1⟩:=p
  have H1:Hid (hexD s x.i=.error (e1,a1)):=h1
  clear h1
  go_enter Tryz.func140,Tryz.ntmps140
  go_wp2_with fail
  refine (pHexDigit_any r s x _ (by exact hh.out) hi hs).mono ?_
  rw [H1.out]
  rintro e w1 ⟨hu,v,i',rfl,hf⟩
  go_wp2_with fail
  go_ret2
  exact PNumOut.mk_error _ _ 0 i' (hexPair_d1 H1.out) hu rfl hf
 | ok p=>
  obtain⟨a,j⟩:=p
  have H1:Hid (hexD s x.i=.ok (a,j)):=h1
  obtain⟨hj,hi1,ha0,ha1⟩:=hexD_in h1
  clear h1
  go_enter Tryz.func140,Tryz.ntmps140
  go_wp2_with fail
  refine (pHexDigit_any r s x _ (by exact hh.out) hi hs).mono ?_
  rw [H1.out]
  rintro e w1 ⟨hu,rfl,hf⟩
  have HU1:Hid (Upd [r] w w1):=hu
  have HF1:Hid (PdAt w1 r s ⟨j,x.e,x.a,x.d,x.t⟩):=hf
  clear hu hf
  cases h2:hexD s j with
  | error p=>
   obtain⟨e1,a1⟩:=p
   have H2:Hid (hexD s j=.error (e1,a1)):=h2
   clear h2
   go_wp2_with fail
   refine (pHexDigit_any r s ⟨j,x.e,x.a,x.d,x.t⟩ _ (by exact HF1.out) (by show j≤_;omega) hs).mono ?_
   rw [show hexD s _=_ from H2.out]
   rintro e w2 ⟨hu,v,i',rfl,hf⟩
   go_wp2_with fail
   go_ret2
   exact PNumOut.mk_error _ _ _ i' (hexPair_d2 H1.out H2.out) (HU1.out.trans hu) rfl hf
  | ok p=>
   obtain⟨b,k⟩:=p
   have H2:Hid (hexD s j=.ok (b,k)):=h2
   obtain⟨hk,hj1,hb0,hb1⟩:=hexD_in h2
   clear h2
   go_wp2_with fail
   refine (pHexDigit_any r s ⟨j,x.e,x.a,x.d,x.t⟩ _ (by exact HF1.out) (by show j≤_;omega) hs).mono ?_
   rw [show hexD s _=_ from H2.out]
   rintro e w2 ⟨hu,rfl,hf⟩
   go_wp2_with fail
   go_ret2
   exact PNumOut.mk_ok (16 * a+b) k (hexPair_d3 H1.out H2.out) (HU1.out.trans hu) (tup2 (int_eq (or_hex ha0 ha1 hb0 hb1)) rfl) hf
end Go.Proofs.YtcpfpnjkfahjcaaGreat
