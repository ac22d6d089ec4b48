import Derived.Shelf.Small.Strs
import Derived.Test.YtcpfpnjkfahjcaaGreatRows
import Derived.Test.YtcpfpnjkfahjcaaGreatH03
set_option linter.unusedSimpArgs false
set_option linter.unusedVariables false
/- The library's strings.IndexByte,by the shelf's contract,at this program's numbers. -/
namespace Go.Proofs.YtcpfpnjkfahjcaaGreat
open Go.RowKit Go.Shelf
def ren137:Go.Shelf.Ren:=⟨fun|137=>137|217=>141|266=>143|n=>n,fun|9=>9|5=>5|3=>3|n=>n,fun|n=>n⟩
theorem lays137:Go.Proofs.Lays.n137 Tryz.prog ren137:={
 mixed:=by kernel_rfl
 f137:=Tryz.func137.trans (congrArg some (by kernel_rfl))
 f217:=Tryz.func141.trans (congrArg some (by kernel_rfl))
 f266:=Tryz.func143.trans (congrArg some (by kernel_rfl))
 t3:=Tryz.underlying3
 a3:=Tryz.isAgg3
 z3:=Tryz.sizeOf3
 v3:=Tryz.zeroValue3
 t5:=Tryz.underlying5
 a5:=Tryz.isAgg5
 z5:=Tryz.sizeOf5
 v5:=Tryz.zeroValue5
 t9:=Tryz.underlying9
 a9:=Tryz.isAgg9
 z9:=Tryz.sizeOf9
 v9:=Tryz.zeroValue9 }
theorem indexByte_any (s:ByteArray) (c:Int) (w:World) :
  Calls Tryz.prog 137 #[.string s,.int .u8 c] w fun e w'=>e=.returned (.int .i64 (Lib.indexByte s.data.toList c.toNat.toUInt8))∧w'=w:=Any.strings_IndexByte lays137 s c w
open Go.RowKit
theorem pTake_no (r:Nat) (s:ByteArray) (x:RS) (b:Int) (w:World) (h:PdAt w r s x) (hi:x.i≤s.size) (hs:s.size≤200) (hb:Sp.isAt s x.i b=false) :
  Calls Tryz.prog 83 #[.pointer (some ⟨r,0,none⟩),.int .u8 b] w fun e w'=>e=.returned (.bool false)∧Upd [r] w w'∧PdAt w' r s x:=
 (pTake_any r s x b w h hi hs).mono fun e w' q=>by obtain⟨q1,q2,q3⟩:=q;rw [hb] at q1 q3;exact⟨q1,q2,q3⟩
theorem pTake_yes (r:Nat) (s:ByteArray) (x:RS) (b:Int) (w:World) (h:PdAt w r s x) (hs:s.size≤200) (hb:Sp.isAt s x.i b=true) :
  Calls Tryz.prog 83 #[.pointer (some ⟨r,0,none⟩),.int .u8 b] w fun e w'=>e=.returned (.bool true)∧Upd [r] w w'∧PdAt w' r s ⟨x.i+1,x.e,x.a,x.d,x.t⟩:=
 (pTake_any r s x b w h (Nat.le_of_lt (Sp.isAt_lt hb)) hs).mono fun e w' q=>by obtain⟨q1,q2,q3⟩:=q;rw [hb] at q1 q3;exact⟨q1,q2,q3⟩
def sgL:Bool→ByteArray
 | false=>⟨#[92,40,41,91,93,123,125,42,43,63,124,46]⟩
 | true=>⟨#[92,40,41,91,93,123,125,42,43,63,124,46,45,94]⟩
def ixOf (l:Bool) (c:Int):Int:=Lib.indexByte (sgL l).data.toList c.toNat.toUInt8
def isSign (l:Bool) (c:Int):Bool:=if l then Sp.listSign c else Sp.sign c
theorem ix_all (l:Bool):((List.range 256).all fun n=>decide (ixOf l (n:Int) < 0) == !isSign l (n:Int))=true:=by cases l<;>kernel_rfl
theorem ix_is {l:Bool} {c:Int} (h0:0≤c) (h1:c≤255):decide (ixOf l c < 0)=!isSign l c:=by
 obtain⟨n,rfl⟩:=Int.eq_ofNat_of_zero_le h0
 have h:=ix_all l
 rw [List.all_eq_true] at h
 simpa using h n (List.mem_range.2 (by omega))
theorem ix_any (l:Bool) (c:Int) (w:World) :
  Calls Tryz.prog 137 #[.string (sgL l),.int .u8 c] w fun e w'=>e=.returned (.int .i64 (ixOf l c))∧∃ n,w'=w.drewN n:=
 (indexByte_any (sgL l) c w).mono fun e w' q=>⟨q.1,0,by rw [q.2];rfl⟩
set_option maxHeartbeats 800000 in
theorem pEscaped_n (r:Nat) (s:ByteArray) (x:RS) (w:World) (h:PdAt w r s x) (hi:x.i≤s.size) (hs:s.size≤200) (hb:Sp.isAt s x.i 110=true) :
  Calls Tryz.prog 136 #[.pointer (some ⟨r,0,none⟩)] w (PNumOut .u8 r s x w (Sp.escape s x.i)):=by
 have hh:Hid (PdAt w r s x):=h
 have HB:Hid (Sp.isAt s x.i 110=true):=hb
 have HR:Hid (Sp.escape s x.i=.ok (10,x.i+1)):=by
  show _=_;simp [Sp.isAt] at hb;unfold Sp.escape;rw [if_pos hb.1,if_pos hb.2]
 clear h hb
 go_enter Tryz.func136,Tryz.ntmps136
 go_wp2_with fail
 refine (pTake_yes r s x _ _ (by exact hh.out) hs HB.out).mono ?_
 rintro e w1 ⟨rfl,hu,hf⟩
 go_wp2_with fail
 go_ret2
 exact PNumOut.mk_ok 10 (x.i+1) HR.out hu rfl hf
set_option maxHeartbeats 800000 in
theorem pEscaped_t (r:Nat) (s:ByteArray) (x:RS) (w:World) (h:PdAt w r s x) (hi:x.i≤s.size) (hs:s.size≤200) (hb:Sp.isAt s x.i 116=true) :
  Calls Tryz.prog 136 #[.pointer (some ⟨r,0,none⟩)] w (PNumOut .u8 r s x w (Sp.escape s x.i)):=by
 have hh:Hid (PdAt w r s x):=h
 have HB:Hid (Sp.isAt s x.i 116=true):=hb
 have H1:Hid (Sp.isAt s x.i 110=false):=by show _=_;simp [Sp.isAt] at hb ⊢;intro _;omega
 have HR:Hid (Sp.escape s x.i=.ok (9,x.i+1)):=by
  show _=_;simp [Sp.isAt] at hb;unfold Sp.escape;rw [if_pos hb.1,if_neg (by omega),if_pos hb.2]
 clear h hb
 go_enter Tryz.func136,Tryz.ntmps136
 go_wp2_with fail
 refine (pTake_no r s x _ _ (by exact hh.out) hi hs H1.out).mono ?_
 rintro e w1 ⟨rfl,hu,hf⟩
 go_wp2_with fail
 refine (pTake_yes r s x _ _ (by exact hf) hs HB.out).mono ?_
 rintro e w2 ⟨rfl,hu2,hf2⟩
 go_wp2_with fail
 go_ret2
 exact PNumOut.mk_ok 9 (x.i+1) HR.out (hu.trans hu2) rfl hf2
set_option maxHeartbeats 800000 in
theorem pEscaped_x (r:Nat) (s:ByteArray) (x:RS) (w:World) (h:PdAt w r s x) (hi:x.i≤s.size) (hs:s.size≤200) (hb:Sp.isAt s x.i 120=true) :
  Calls Tryz.prog 136 #[.pointer (some ⟨r,0,none⟩)] w (PNumOut .u8 r s x w (Sp.escape s x.i)):=by
 have hh:Hid (PdAt w r s x):=h
 have HB:Hid (Sp.isAt s x.i 120=true):=hb
 have hlt:=Sp.isAt_lt hb
 have H1:Hid (Sp.isAt s x.i 110=false):=by show _=_;simp [Sp.isAt] at hb ⊢;intro _;omega
 have H2:Hid (Sp.isAt s x.i 116=false):=by show _=_;simp [Sp.isAt] at hb ⊢;intro _;omega
 have HR:Hid (Sp.escape s x.i=Sp.hexPair s (x.i+1)):=by
  show _=_;simp [Sp.isAt] at hb;unfold Sp.escape;rw [if_pos hb.1,if_neg (by omega),if_neg (by omega),if_pos hb.2]
 clear h hb
 go_enter Tryz.func136,Tryz.ntmps136
 go_wp2_with fail
 refine (pTake_no r s x _ _ (by exact hh.out) hi hs H1.out).mono ?_
 rintro e w1 ⟨rfl,hu,hf⟩
 have HU1:Hid (Upd [r] w w1):=hu
 clear hu
 go_wp2_with fail
 refine (pTake_no r s x _ _ (by exact hf) hi hs H2.out).mono ?_
 rintro e w2 ⟨rfl,hu2,hf2⟩
 have HU2:Hid (Upd [r] w w2):=HU1.out.trans hu2
 clear hu2
 go_wp2_with fail
 refine (pTake_yes r s x _ _ (by exact hf2) hs HB.out).mono ?_
 rintro e w3 ⟨rfl,hu3,hf3⟩
 have HU3:Hid (Upd [r] w w3):=HU2.out.trans hu3
 clear hu3
 go_wp2_with fail
 refine (pHexPair_any r s ⟨x.i+1,x.e,x.a,x.d,x.t⟩ _ (by exact hf3) (by exact hlt) hs).mono ?_
 rintro e w4 ⟨hu4,hq⟩
 have HU4:Hid (Upd [r] w w4):=HU3.out.trans hu4
 clear hu4 hf hf2 hf3
 revert hq
 cases hr:Sp.hexPair s (x.i+1) with
 | ok p=>
  obtain⟨v,j⟩:=p
  rintro ⟨rfl,hf⟩
  have HR':Hid (Sp.escape s x.i=.ok (v,j)):=HR.out.trans hr
  clear hr
  go_wp2
  go_ret2
  exact PNumOut.mk_ok v j HR'.out HU4.out rfl hf
 | error p=>
  obtain⟨e1,a1⟩:=p
  rintro ⟨v,i',rfl,hf⟩
  have HR':Hid (Sp.escape s x.i=.error (e1,a1)):=HR.out.trans hr
  clear hr
  go_wp2
  go_ret2
  exact PNumOut.mk_error e1 a1 v i' HR'.out HU4.out rfl hf
set_option maxHeartbeats 800000 in
theorem pEscaped_end (r:Nat) (s:ByteArray) (x:RS) (w:World) (h:PdAt w r s x) (hi:x.i≤s.size) (hs:s.size≤200) (hb:¬ x.i < s.size) :
  Calls Tryz.prog 136 #[.pointer (some ⟨r,0,none⟩)] w (PNumOut .u8 r s x w (Sp.escape s x.i)):=by
 have hh:Hid (PdAt w r s x):=h
 have HB:Hid (x.i=s.size):=by show _=_;omega
 have HR:Hid (Sp.escape s x.i=.error (3,x.i)):=by show _=_;unfold Sp.escape;rw [if_neg hb]
 clear h
 go_enter Tryz.func136,Tryz.ntmps136
 go_wp2_with fail
 refine (pTake_no r s x _ _ (by exact hh.out) hi hs (isAt_out hb)).mono ?_
 rintro e w1 ⟨rfl,hu,hf⟩
 have HU1:Hid (Upd [r] w w1):=hu
 clear hu
 go_wp2_with fail
 refine (pTake_no r s x _ _ (by exact hf) hi hs (isAt_out hb)).mono ?_
 rintro e w2 ⟨rfl,hu2,hf2⟩
 have HU2:Hid (Upd [r] w w2):=HU1.out.trans hu2
 clear hu2
 go_wp2_with fail
 refine (pTake_no r s x _ _ (by exact hf2) hi hs (isAt_out hb)).mono ?_
 rintro e w3 ⟨rfl,hu3,hf3⟩
 have HU3:Hid (Upd [r] w w3):=HU2.out.trans hu3
 have HF3:Hid (PdAt w3 r s x):=hf3
 obtain⟨c0,c1,c2,c3,c4,c5,fz⟩:=HF3.out.facts
 clear hu3 hf hf2 hf3
 go_wp2_with fail
 go_quiet ((go_at_call 61;exact Calls.quiet_of (pAtEnd_yes r s x _ HF3.out HB.out)))
 go_wp2_with fail
 refine (pRefuse_any r s x _ _ _ (by exact HF3.out)).mono ?_
 rintro e w4 ⟨rfl,hu4,hf4⟩
 go_wp2_with fail
 go_ret2
 exact PNumOut.mk_error _ _ 0 x.i HR.out ((HU3.out.trans (drewN_upd _ _ _)).trans hu4) rfl hf4
set_option maxHeartbeats 800000 in
theorem pEscaped_other (r:Nat) (s:ByteArray) (x:RS) (w:World) (h:PdAt w r s x) (hi:x.i < s.size) (hs:s.size≤200) (h1:Sp.isAt s x.i 110=false) (h2:Sp.isAt s x.i 116=false) (h3:Sp.isAt s x.i 120=false) :
  Calls Tryz.prog 136 #[.pointer (some ⟨r,0,none⟩)] w (PNumOut .u8 r s x w (Sp.escape s x.i)):=by
 have hh:Hid (PdAt w r s x):=h
 have H1:Hid (Sp.isAt s x.i 110=false):=h1
 have H2:Hid (Sp.isAt s x.i 116=false):=h2
 have H3:Hid (Sp.isAt s x.i 120=false):=h3
 have hi':=Nat.le_of_lt hi
 have HB:Hid (Sp.byteAt s x.i=(s[x.i].toNat:Int)):=Sp.byteAt_in s x.i hi
 have HR:Hid (Sp.escape s x.i=if Sp.listSign (Sp.byteAt s x.i) then .ok (Sp.byteAt s x.i,x.i+1) else .error (3,x.i)):=by
  show _=_;rw [isAt_ok hi] at h1 h2 h3;simp at h1 h2 h3;unfold Sp.escape;rw [if_pos hi,if_neg h1,if_neg h2,if_neg h3]
 clear h h1 h2 h3
 go_enter Tryz.func136,Tryz.ntmps136
 go_wp2_with fail
 refine (pTake_no r s x _ _ (by exact hh.out) hi' hs H1.out).mono ?_
 rintro e w1 ⟨rfl,hu,hf⟩
 have HU1:Hid (Upd [r] w w1):=hu
 clear hu
 go_wp2_with fail
 refine (pTake_no r s x _ _ (by exact hf) hi' hs H2.out).mono ?_
 rintro e w2 ⟨rfl,hu2,hf2⟩
 have HU2:Hid (Upd [r] w w2):=HU1.out.trans hu2
 clear hu2
 go_wp2_with fail
 refine (pTake_no r s x _ _ (by exact hf2) hi' hs H3.out).mono ?_
 rintro e w3 ⟨rfl,hu3,hf3⟩
 have HU3:Hid (Upd [r] w w3):=HU2.out.trans hu3
 have HF3:Hid (PdAt w3 r s x):=hf3
 obtain⟨c0,c1,c2,c3,c4,c5,fz⟩:=HF3.out.facts
 clear hu3 hf hf2 hf3
 cases hl:Sp.listSign (Sp.byteAt s x.i) with
 | false=>
  have hx:ixOf true (s[x.i].toNat:Int) < 0:=by
   have:=ix_is (l:=true) (c:=(s[x.i].toNat:Int)) (by omega) (by have:=s[x.i].toNat_lt;omega)
   rw [← HB.out,show isSign true (Sp.byteAt s x.i)=false from hl,HB.out] at this;simpa using this
  have HR':Hid (Sp.escape s x.i=.error (3,x.i)):=by show _=_;rw [HR.out,hl];rfl
  clear hl
  go_wp2_with fail
  go_quiet (first|(go_at_call 61;exact Calls.quiet_of (pAtEnd_no r s x _ HF3.out hi))|(go_at_call 137;exact Calls.quiet_of (ix_any true _ _)))
  go_wp2_with fail
  refine (pRefuse_any r s x _ _ _ (by exact HF3.out)).mono ?_
  rintro e w4 ⟨rfl,hu4,hf4⟩
  go_wp2_with fail
  go_ret2
  exact PNumOut.mk_error _ _ 0 x.i HR'.out ((HU3.out.trans (drewN_upd _ _ _)).trans hu4) rfl hf4
 | true=>
  have hx:¬ ixOf true (s[x.i].toNat:Int) < 0:=by
   have:=ix_is (l:=true) (c:=(s[x.i].toNat:Int)) (by omega) (by have:=s[x.i].toNat_lt;omega)
   rw [← HB.out,show isSign true (Sp.byteAt s x.i)=true from hl,HB.out] at this;simpa using this
  have HR':Hid (Sp.escape s x.i=.ok ((s[x.i].toNat:Int),x.i+1)):=by show _=_;rw [HR.out,hl,HB.out];rfl
  clear hl
  go_wp2_with fail
  go_quiet (first|(go_at_call 61;exact Calls.quiet_of (pAtEnd_no r s x _ HF3.out hi))|(go_at_call 137;exact Calls.quiet_of (ix_any true _ _)))
  go_wp2_with fail
  go_quiet (fail)
  go_wp2_with fail
  go_ret2
  exact PNumOut.mk_ok _ (x.i+1) HR'.out (by refine HU3.out.trans ?_;(repeat (first|exact Upd.refl _ _|refine Upd.drewN ?_|refine Upd.drew ?_|refine Upd.setCell ?_ (by simp) _|refine Upd.alloc ?_ _))) rfl (HF3.out.set1 (x.i+1))
theorem pEscaped_any (r:Nat) (s:ByteArray) (x:RS) (w:World) (h:PdAt w r s x) (hi:x.i≤s.size) (hs:s.size≤200) :
  Calls Tryz.prog 136 #[.pointer (some ⟨r,0,none⟩)] w (PNumOut .u8 r s x w (Sp.escape s x.i)):=by
 by_cases hlt:x.i < s.size
 ·cases h1:Sp.isAt s x.i 110 with
  | true=>exact pEscaped_n r s x w h hi hs h1
  | false=>cases h2:Sp.isAt s x.i 116 with
   | true=>exact pEscaped_t r s x w h hi hs h2
   | false=>cases h3:Sp.isAt s x.i 120 with
    | true=>exact pEscaped_x r s x w h hi hs h3
    | false=>exact pEscaped_other r s x w h hlt hs h1 h2 h3
 ·exact pEscaped_end r s x w h hi hs hlt
theorem byteBut_esc {l:Bool} {s:ByteArray} {i:Nat} (h:Sp.isAt s i 92=true):Sp.byteBut l s i=Sp.escape s (i+1):=by unfold Sp.byteBut;rw [if_pos h]
theorem byteBut_out {l:Bool} {s:ByteArray} {i:Nat} (h:¬ i < s.size):Sp.byteBut l s i=.error (3,i):=by
 unfold Sp.byteBut;rw [if_neg (by rw [isAt_out h];simp),if_neg (fun q=>h q.1)]
theorem byteBut_sign {l:Bool} {s:ByteArray} {i:Nat} (h:Sp.isAt s i 92=false) (hq:isSign l (Sp.byteAt s i)=true):Sp.byteBut l s i=.error (3,i):=by
 unfold Sp.byteBut;rw [if_neg (by rw [h];simp),if_neg (fun q=>by have q2:=q.2;unfold isSign at hq;rw [hq] at q2;cases q2)]
theorem byteBut_byte {l:Bool} {s:ByteArray} {i:Nat} (hi:i < s.size) (h:Sp.isAt s i 92=false) (hq:isSign l (Sp.byteAt s i)=false):Sp.byteBut l s i=.ok (Sp.byteAt s i,i+1):=by
 unfold Sp.byteBut;rw [if_neg (by rw [h];simp),if_pos ⟨hi,hq⟩]
set_option maxHeartbeats 800000 in
theorem pByteBut_any (l:Bool) (r:Nat) (s:ByteArray) (x:RS) (w:World) (h:PdAt w r s x) (hi:x.i≤s.size) (hs:s.size≤200) :
  Calls Tryz.prog 126 #[.pointer (some ⟨r,0,none⟩),.string (sgL l)] w (PNumOut .u8 r s x w (Sp.byteBut l s x.i)):=by
 have hh:Hid (PdAt w r s x):=h
 clear h
 obtain⟨sg,HS⟩:∃ sg,Hid (sg=sgL l):=⟨sgL l,(rfl:sgL l=sgL l)⟩
 rw [← HS.out]
 cases hb:Sp.isAt s x.i 92 with
 | true=>
  have HB:Hid (Sp.isAt s x.i 92=true):=hb
  have hlt:=Sp.isAt_lt hb
  have HR:Hid (Sp.byteBut l s x.i=Sp.escape s (x.i+1)):=byteBut_esc hb
  clear hb
  go_enter Tryz.func126,Tryz.ntmps126
  go_wp2_with fail
  refine (pTake_yes r s x _ _ (by exact hh.out) hs HB.out).mono ?_
  rintro e w1 ⟨rfl,hu,hf⟩
  have HU1:Hid (Upd [r] w w1):=hu
  clear hu
  go_wp2_with fail
  refine (pEscaped_any r s ⟨x.i+1,x.e,x.a,x.d,x.t⟩ _ (by exact hf) (by exact hlt) hs).mono ?_
  rintro e w2 ⟨hu2,hq⟩
  have HU2:Hid (Upd [r] w w2):=HU1.out.trans hu2
  clear hu2 hf
  revert hq
  cases hr:Sp.escape s (x.i+1) with
  | ok p=>
   obtain⟨v,j⟩:=p
   rintro ⟨rfl,hf⟩
   have HR':Hid (Sp.byteBut l s x.i=.ok (v,j)):=HR.out.trans hr
   clear hr
   go_wp2
   go_ret2
   exact PNumOut.mk_ok v j HR'.out HU2.out rfl hf
  | error p=>
   obtain⟨e1,a1⟩:=p
   rintro ⟨v,i',rfl,hf⟩
   have HR':Hid (Sp.byteBut l s x.i=.error (e1,a1)):=HR.out.trans hr
   clear hr
   go_wp2
   go_ret2
   exact PNumOut.mk_error e1 a1 v i' HR'.out HU2.out rfl hf
 | false=>
  have HB:Hid (Sp.isAt s x.i 92=false):=hb
  clear hb
  by_cases hlt:x.i < s.size
  ·have HV:Hid (Sp.byteAt s x.i=(s[x.i].toNat:Int)):=Sp.byteAt_in s x.i hlt
   cases hl:isSign l (Sp.byteAt s x.i) with
   | true=>
    have hx:0≤ixOf l (s[x.i].toNat:Int):=by
     have:=ix_is (l:=l) (c:=(s[x.i].toNat:Int)) (by omega) (by have:=s[x.i].toNat_lt;omega)
     rw [← HV.out,hl,HV.out] at this;simp at this;omega
    have HR:Hid (Sp.byteBut l s x.i=.error (3,x.i)):=byteBut_sign HB.out hl
    clear hl
    go_enter Tryz.func126,Tryz.ntmps126
    go_wp2_with fail
    refine (pTake_no r s x _ _ (by exact hh.out) hi hs HB.out).mono ?_
    rintro e w1 ⟨rfl,hu,hf⟩
    have HU1:Hid (Upd [r] w w1):=hu
    have HF1:Hid (PdAt w1 r s x):=hf
    obtain⟨c0,c1,c2,c3,c4,c5,fz⟩:=HF1.out.facts
    clear hu hf
    go_wp2_with fail
    go_quiet (first|(go_at_call 61;exact Calls.quiet_of (pAtEnd_no r s x _ HF1.out hlt))|(go_at_call 137;rw [HS.out];exact Calls.quiet_of (ix_any l _ _)))
    go_wp2_with fail
    refine (pRefuse_any r s x _ _ _ (by exact HF1.out)).mono ?_
    rintro e w4 ⟨rfl,hu4,hf4⟩
    go_wp2_with fail
    go_ret2
    exact PNumOut.mk_error _ _ 0 x.i HR.out ((HU1.out.trans (drewN_upd _ _ _)).trans hu4) rfl hf4
   | false=>
    have hx:¬ 0≤ixOf l (s[x.i].toNat:Int):=by
     have:=ix_is (l:=l) (c:=(s[x.i].toNat:Int)) (by omega) (by have:=s[x.i].toNat_lt;omega)
     rw [← HV.out,hl,HV.out] at this;simp at this;omega
    have HR:Hid (Sp.byteBut l s x.i=.ok ((s[x.i].toNat:Int),x.i+1)):=by show _=_;rw [byteBut_byte hlt HB.out hl,HV.out]
    clear hl
    go_enter Tryz.func126,Tryz.ntmps126
    go_wp2_with fail
    refine (pTake_no r s x _ _ (by exact hh.out) hi hs HB.out).mono ?_
    rintro e w1 ⟨rfl,hu,hf⟩
    have HU1:Hid (Upd [r] w w1):=hu
    have HF1:Hid (PdAt w1 r s x):=hf
    obtain⟨c0,c1,c2,c3,c4,c5,fz⟩:=HF1.out.facts
    clear hu hf
    go_wp2_with fail
    go_quiet (first|(go_at_call 61;exact Calls.quiet_of (pAtEnd_no r s x _ HF1.out hlt))|(go_at_call 137;rw [HS.out];exact Calls.quiet_of (ix_any l _ _)))
    go_wp2_with fail
    go_quiet (fail)
    go_wp2_with fail
    go_ret2
    exact PNumOut.mk_ok _ (x.i+1) HR.out (by refine HU1.out.trans ?_;(repeat (first|exact Upd.refl _ _|refine Upd.drewN ?_|refine Upd.drew ?_|refine Upd.setCell ?_ (by simp) _|refine Upd.alloc ?_ _))) rfl (HF1.out.set1 (x.i+1))
  ·have HE:Hid (x.i=s.size):=by show _=_;omega
   have HR:Hid (Sp.byteBut l s x.i=.error (3,x.i)):=byteBut_out hlt
   go_enter Tryz.func126,Tryz.ntmps126
   go_wp2_with fail
   refine (pTake_no r s x _ _ (by exact hh.out) hi hs HB.out).mono ?_
   rintro e w1 ⟨rfl,hu,hf⟩
   have HU1:Hid (Upd [r] w w1):=hu
   have HF1:Hid (PdAt w1 r s x):=hf
   obtain⟨c0,c1,c2,c3,c4,c5,fz⟩:=HF1.out.facts
   clear hu hf
   go_wp2_with fail
   go_quiet ((go_at_call 61;exact Calls.quiet_of (pAtEnd_yes r s x _ HF1.out HE.out)))
   go_wp2_with fail
   refine (pRefuse_any r s x _ _ _ (by exact HF1.out)).mono ?_
   rintro e w4 ⟨rfl,hu4,hf4⟩
   go_wp2_with fail
   go_ret2
   exact PNumOut.mk_error _ _ 0 x.i HR.out ((HU1.out.trans (drewN_upd _ _ _)).trans hu4) rfl hf4
theorem pitem_1 {s:ByteArray} {i:Nat} {f:Sp.Fault} (h:Sp.byteBut true s i=.error f):Sp.item s i=.error f:=by unfold Sp.item;rw [h]
theorem pitem_2 {s:ByteArray} {i j:Nat} {a:Int} (h:Sp.byteBut true s i=.ok (a,j)) (h1:Sp.isAt s j 45=false):Sp.item s i=.ok (a,a,j):=by unfold Sp.item;rw [h];simp [h1]
theorem pitem_3 {s:ByteArray} {i j:Nat} {a:Int} {f:Sp.Fault} (h:Sp.byteBut true s i=.ok (a,j)) (h1:Sp.isAt s j 45=true) (h2:Sp.byteBut true s (j+1)=.error f):Sp.item s i=.error f:=by unfold Sp.item;rw [h];simp [h1,h2]
theorem pitem_4 {s:ByteArray} {i j k:Nat} {a b:Int} (h:Sp.byteBut true s i=.ok (a,j)) (h1:Sp.isAt s j 45=true) (h2:Sp.byteBut true s (j+1)=.ok (b,k)) (h3:b < a):Sp.item s i=.error (3,(j+1:Nat)):=by unfold Sp.item;rw [h];simp [h1,h2,h3]
theorem pitem_5 {s:ByteArray} {i j k:Nat} {a b:Int} (h:Sp.byteBut true s i=.ok (a,j)) (h1:Sp.isAt s j 45=true) (h2:Sp.byteBut true s (j+1)=.ok (b,k)) (h3:¬ b < a):Sp.item s i=.ok (a,b,k):=by unfold Sp.item;rw [h];simp [h1,h2,h3]
set_option maxHeartbeats 800000 in
theorem pItem_any (r:Nat) (s:ByteArray) (x:RS) (w:World) (h:PdAt w r s x) (hi:x.i≤s.size) (hs:s.size≤200) :
  Calls Tryz.prog 133 #[.pointer (some ⟨r,0,none⟩)] w (PTwoOut .u8 r s x w (Sp.item s x.i)):=by
 have hh:Hid (PdAt w r s x):=h
 clear h
 cases h1:Sp.byteBut true s x.i with
 | error p=>
  obtain⟨e1,a1⟩:=p
  have H1:Hid (Sp.byteBut true s x.i=.error (e1,a1)):=h1
  have HR:Hid (Sp.item s x.i=.error (e1,a1)):=pitem_1 h1
  clear h1
  go_enter Tryz.func133,Tryz.ntmps133
  go_wp2_with fail
  refine (pByteBut_any true r s x _ (by exact hh.out) hi hs).mono ?_
  rw [H1.out]
  rintro e w1 ⟨hu,v,i',rfl,hf⟩
  go_wp2_with fail
  go_ret3
  exact PTwoOut.mk_error _ _ v v i' HR.out hu rfl hf
 | ok p=>
  obtain⟨a,j⟩:=p
  have H1:Hid (Sp.byteBut true s x.i=.ok (a,j)):=h1
  obtain⟨_,hj⟩:=Sp.byteBut_in h1
  clear h1
  cases h2:Sp.isAt s j 45 with
  | false=>
   have H2:Hid (Sp.isAt s j 45=false):=h2
   have HR:Hid (Sp.item s x.i=.ok (a,a,j)):=pitem_2 H1.out h2
   clear h2
   go_enter Tryz.func133,Tryz.ntmps133
   go_wp2_with fail
   refine (pByteBut_any true r s x _ (by exact hh.out) hi hs).mono ?_
   rw [H1.out]
   rintro e w1 ⟨hu,rfl,hf⟩
   have HU1:Hid (Upd [r] w w1):=hu
   clear hu
   go_wp2_with fail
   refine (pTake_no r s ⟨j,x.e,x.a,x.d,x.t⟩ _ _ (by exact hf) hj hs H2.out).mono ?_
   rintro e w2 ⟨rfl,hu2,hf2⟩
   go_wp2_with fail
   go_ret3
   exact PTwoOut.mk_ok a a j HR.out (HU1.out.trans hu2) rfl hf2
  | true=>
   have H2:Hid (Sp.isAt s j 45=true):=h2
   have hj1:=Sp.isAt_lt h2
   clear h2
   cases h3:Sp.byteBut true s (j+1) with
   | error p=>
    obtain⟨e1,a1⟩:=p
    have H3:Hid (Sp.byteBut true s (j+1)=.error (e1,a1)):=h3
    have HR:Hid (Sp.item s x.i=.error (e1,a1)):=pitem_3 H1.out H2.out h3
    clear h3
    go_enter Tryz.func133,Tryz.ntmps133
    go_wp2_with fail
    refine (pByteBut_any true r s x _ (by exact hh.out) hi hs).mono ?_
    rw [H1.out]
    rintro e w1 ⟨hu,rfl,hf⟩
    have HU1:Hid (Upd [r] w w1):=hu
    clear hu
    go_wp2_with fail
    refine (pTake_yes r s ⟨j,x.e,x.a,x.d,x.t⟩ _ _ (by exact hf) hs H2.out).mono ?_
    rintro e w2 ⟨rfl,hu2,hf2⟩
    have HU2:Hid (Upd [r] w w2):=HU1.out.trans hu2
    have HF2:Hid (PdAt w2 r s ⟨j+1,x.e,x.a,x.d,x.t⟩):=hf2
    obtain⟨c0,c1,c2,c3,c4,c5,fz⟩:=HF2.out.facts
    clear hu2 hf hf2
    go_wp2_with fail
    refine (pByteBut_any true r s ⟨j+1,x.e,x.a,x.d,x.t⟩ _ (by exact HF2.out) (by exact hj1) hs).mono ?_
    rw [show Sp.byteBut true s _=_ from H3.out]
    rintro e w3 ⟨hu3,v,i',rfl,hf3⟩
    go_wp2_with fail
    go_ret3
    exact PTwoOut.mk_error _ _ a v i' HR.out (HU2.out.trans hu3) rfl hf3
   | ok p=>
    obtain⟨b,k⟩:=p
    have H3:Hid (Sp.byteBut true s (j+1)=.ok (b,k)):=h3
    clear h3
    go_enter Tryz.func133,Tryz.ntmps133
    go_wp2_with fail
    refine (pByteBut_any true r s x _ (by exact hh.out) hi hs).mono ?_
    rw [H1.out]
    rintro e w1 ⟨hu,rfl,hf⟩
    have HU1:Hid (Upd [r] w w1):=hu
    clear hu
    go_wp2_with fail
    refine (pTake_yes r s ⟨j,x.e,x.a,x.d,x.t⟩ _ _ (by exact hf) hs H2.out).mono ?_
    rintro e w2 ⟨rfl,hu2,hf2⟩
    have HU2:Hid (Upd [r] w w2):=HU1.out.trans hu2
    have HF2:Hid (PdAt w2 r s ⟨j+1,x.e,x.a,x.d,x.t⟩):=hf2
    obtain⟨c0,c1,c2,c3,c4,c5,fz⟩:=HF2.out.facts
    clear hu2 hf hf2
    go_wp2_with fail
    refine (pByteBut_any true r s ⟨j+1,x.e,x.a,x.d,x.t⟩ _ (by exact HF2.out) (by exact hj1) hs).mono ?_
    rw [show Sp.byteBut true s _=_ from H3.out]
    rintro e w3 ⟨hu3,rfl,hf3⟩
    have HU3:Hid (Upd [r] w w3):=HU2.out.trans hu3
    have HF3:Hid (PdAt w3 r s ⟨k,x.e,x.a,x.d,x.t⟩):=hf3
    clear hu3 hf3
    by_cases hlt:b < a
    ·have HR:Hid (Sp.item s x.i=.error (3,(j+1:Nat))):=pitem_4 H1.out H2.out H3.out hlt
     go_wp2_with fail
     refine (pRefuse_any r s ⟨k,x.e,x.a,x.d,x.t⟩ _ _ _ (by exact HF3.out)).mono ?_
     rintro e w4 ⟨rfl,hu4,hf4⟩
     go_wp2_with fail
     go_ret3
     exact PTwoOut.mk_error _ _ a b k HR.out (HU3.out.trans hu4) rfl hf4
    ·have HR:Hid (Sp.item s x.i=.ok (a,b,k)):=pitem_5 H1.out H2.out H3.out hlt
     go_wp2_with fail
     go_ret3
     exact PTwoOut.mk_ok a b k HR.out HU3.out rfl HF3.out
end Go.Proofs.YtcpfpnjkfahjcaaGreat
