import Derived.Test.YtcpfpnjkfahjcaaGreatH29
import Derived.Test.YtcpfpnjkfahjcaaGreatH01
set_option linter.unusedSimpArgs false
set_option linter.unusedVariables false
namespace Go.Proofs.YtcpfpnjkfahjcaaGreat
open Go.RowKit
structure NodeAt (w:World) (p:Nat) (a:Lab) (l:Value) (qs:List Nat):Prop where
 pt:PtAt w p (psOf a l)
 own:w.ownsRow (p+1) 74 1 l qs.length (qs.map ptr)
def SizeC (p:Nat) (t:Tr) (w:World):Prop:=Calls Tryz.prog 44 #[.pointer (some ⟨p,0,none⟩)] w fun e w'=>e=.returned (.int .i64 (Sp.size t))∧w'=w
theorem kind_cases {a:Lab} (h:a.kind≤5):(a.kind≤2∧kindOf a.kind=98)∨(a.kind=3∧kindOf a.kind=40)∨(a.kind=4∧kindOf a.kind=124)∨(a.kind=5∧kindOf a.kind=32):=by
 rcases (by omega:a.kind=0∨a.kind=1∨a.kind=2∨a.kind=3∨a.kind=4∨a.kind=5) with h|h|h|h|h|h<;>rw [h]<;>simp [kindOf]
theorem TrsOK_take {l:List Tr} (h:Sp.TrsOK l) (k:Nat):Sp.TrsOK (l.take k):=by
 induction l generalizing k with
 | nil=>simpa using h
 | cons t r ih=>
  cases k with
  | zero=>exact Sp.TrsOK_nil
  | succ k=>rw [Sp.TrsOK_cons] at h;rw [List.take_succ_cons,Sp.TrsOK_cons];exact⟨h.1,h.2.1,ih h.2.2 k⟩
theorem sizes_take {ks:List Tr} {k:Nat} {t:Tr} (acc:Int) (h:ks[k]?=some t):Sp.sizes acc (ks.take (k+1))=min (Sp.sizes acc (ks.take k)+Sp.size t) 1000000:=by
 rw [List.take_add_one,h];exact Sp.sizes_snoc t _ _
theorem sz_a {a:Lab} {S:Int} (h:a.min < 0) (hk:a.kind≠3):Sp.sz1 a S=S:=by unfold Sp.sz1;rw [if_pos h,if_neg hk]
theorem sz_b {a:Lab} {S m:Int} (h:¬ a.min < 0) (h2:a.max < 0) (hk:a.kind≠3) (hm:max a.min 1=m):Sp.sz1 a S=min (S * m) 1000000:=by unfold Sp.sz1;rw [if_neg h,if_pos h2,if_neg hk,hm]
theorem sz_c {a:Lab} {S:Int} (h:¬ a.min < 0) (h2:¬ a.max < 0) (hk:a.kind≠3):Sp.sz1 a S=min (S * a.max) 1000000:=by unfold Sp.sz1;rw [if_neg h,if_neg h2,if_neg hk]
theorem sz_g {a:Lab} {S:Int} (hk:a.kind=3):Sp.sz1 a S=Sp.sz1 { a with kind:=0 } (max S 1):=by unfold Sp.sz1;simp [hk]
theorem mul_bd {S m:Int} (h0:0≤S) (h1:S≤1000000) (h2:0≤m) (h3:m≤20):0≤S * m∧S * m≤20000000:=by
 refine⟨Int.mul_nonneg h0 h2,?_⟩
 have:=Int.mul_le_mul h1 h3 h2 (by omega:(0:Int)≤1000000)
 omega
set_option maxHeartbeats 2000000 in
theorem size_98 (p:Nat) (a:Lab) (ks:List Tr) (l:Value) (qs:List Nat) (w:World) (h:NodeAt w p a l qs) (ha:Sp.LabOK a) (hks:Sp.TrsOK ks) (hlen:qs.length=ks.length) (hih:∀ (i q:Nat) (t:Tr),qs[i]?=some q→ks[i]?=some t→SizeC q t w) (hql:qs.length≤1000) (hk:a.kind≤2) (hk':kindOf a.kind=98) :
  SizeC p ⟨a,ks⟩ w:=by
 obtain⟨p0,p1,p258,p259,p260,p261,p262,p263,pz⟩:=h.pt.facts
 have h0:=ha.min0
 have h1:=ha.min1
 have h2:=ha.max0
 have h3:=ha.max1
 have HIH:Hid (∀ (i q:Nat) (t:Tr),qs[i]?=some q→ks[i]?=some t→SizeC q t w):=hih
 have HA:Hid (Sp.LabOK a):=ha
 have HKS:Hid (Sp.TrsOK ks):=hks
 have HL:Hid (qs.length=ks.length):=hlen
 have q0:w.cell? ⟨p,0,none⟩=some (.int .u8 (kindOf a.kind)):=p0
 have q1:w.cell? ⟨p,1,none⟩=some l:=p1
 have q262:w.cell? ⟨p,262,none⟩=some (.int .i64 a.min):=p262
 have q263:w.cell? ⟨p,263,none⟩=some (.int .i64 a.max):=p263
 have HB:Hid (0≤Sp.szB a∧Sp.szB a≤1):=by unfold Hid Sp.szB;split<;>omega
 clear p0 p1 p258 p259 p260 p261 p262 p263 pz ha hks hih hlen
 unfold SizeC
 rcases own_cells h.own with ⟨hl,hqs⟩|⟨g,cap,hl,hcap,hmax,hcell⟩
 ·subst hl
  subst hqs
  have hks0:ks=[]:=List.eq_nil_of_length_eq_zero (by have:=HL.out;simpa using this.symm)
  subst hks0
  clear h
  ·have HS:Hid (Sp.sizes (Sp.szB a) []=1):=by show _=_;rw [Sp.sizes];unfold Sp.szB;rw [if_pos hk]
   rw [hk'] at q0
   clear hk'
   have HZ:Hid (Sp.size ⟨a,[]⟩=Sp.sz1 a 1):=by show Sp.sz1 a _=_;rw [show Sp.sizes (Sp.szB a) []=1 from HS.out]
   have hk0:a.kind≠3:=by omega
   by_cases hm:a.min < 0
   ·skip
    go_enter Tryz.func44,Tryz.ntmps44
    go_wp2_with fail
    refine wp_loop_rounds 1 ?_
    rw [rounds_succ]
    go_wp2_with fail
    all_goals
     go_ret
     exact⟨ret_int (by rw [show Sp.size ⟨a,[]⟩=_ from HZ.out,sz_a (a:=a) (show a.min < 0 by omega) hk0]<;>first|omega|(dsimp only;omega)|omega),rfl⟩
   by_cases hM:a.max < 0
   ·by_cases h5:1≤a.min
    ·have HM:Hid (max a.min 1=a.min):=by show _=_;omega
     have hbd:=mul_bd (S:=1) (m:=a.min) (by omega) (by omega) (by omega) (by omega)
     go_enter Tryz.func44,Tryz.ntmps44
     go_wp2_with fail
     refine wp_loop_rounds 1 ?_
     rw [rounds_succ]
     go_wp2_with fail
     all_goals
      go_ret
      exact⟨ret_int (by rw [show Sp.size ⟨a,[]⟩=_ from HZ.out,sz_b (a:=a) (m:=a.min) (show ¬ a.min < 0 by omega) (show a.max < 0 by omega) hk0 HM.out]<;>first|omega|(dsimp only;omega)|omega),rfl⟩
    ·have HM:Hid (max a.min 1=1):=by show _=_;omega
     go_enter Tryz.func44,Tryz.ntmps44
     go_wp2_with fail
     refine wp_loop_rounds 1 ?_
     rw [rounds_succ]
     go_wp2_with fail
     all_goals
      go_ret
      exact⟨ret_int (by rw [show Sp.size ⟨a,[]⟩=_ from HZ.out,sz_b (a:=a) (m:=1) (show ¬ a.min < 0 by omega) (show a.max < 0 by omega) hk0 HM.out]<;>first|omega|(dsimp only;omega)|omega),rfl⟩
   ·have hbd:=mul_bd (S:=1) (m:=a.max) (by omega) (by omega) (by omega) (by omega)
    go_enter Tryz.func44,Tryz.ntmps44
    go_wp2_with fail
    refine wp_loop_rounds 1 ?_
    rw [rounds_succ]
    go_wp2_with fail
    all_goals
     go_ret
     exact⟨ret_int (by rw [show Sp.size ⟨a,[]⟩=_ from HZ.out,sz_c (a:=a) (show ¬ a.min < 0 by omega) (show ¬ a.max < 0 by omega) hk0]<;>first|omega|(dsimp only;omega)|omega),rfl⟩
 ·subst hl
  clear h hcap hmax
  ·have HB1:Hid (Sp.szB a=1):=by show _=_;unfold Sp.szB;rw [if_pos hk]
   rw [hk'] at q0
   clear hk'
   go_enter Tryz.func44,Tryz.ntmps44
   go_wp2_with fail
   go_loop [3,4] (fun n i=>∃ k:Nat,k≤qs.length∧i=.int .i64 k∧n=.int .i64 (Sp.sizes (Sp.szB a) (ks.take k))) (fun _ i=>qs.length - (intOf i).toNat)
   case atStart=>exact⟨0,by omega,rfl,by rw [HB1.out,List.take_zero,Sp.sizes]⟩
   case round=>
    obtain⟨k,hk1,rfl,rfl⟩:=hrel
    have hbd:=Sp.sizes_bd (ks.take k) (Sp.szB a) (TrsOK_take HKS.out k) HB.out.1 (by have:=HB.out.2;omega)
    by_cases hlt:k < qs.length
    ·obtain⟨q,hq⟩:∃ q,qs[k]?=some q:=⟨_,List.getElem?_eq_getElem hlt⟩
     obtain⟨tk,ht⟩:∃ t,ks[k]?=some t:=⟨_,List.getElem?_eq_getElem (by have:=HL.out;omega)⟩
     have hc:=hcell k q hq
     unfold ptr at hc
     have HC:Hid (SizeC q tk w):=HIH.out k q tk hq ht
     have HN:Hid (Sp.sizes (Sp.szB a) (ks.take (k+1))=min (Sp.sizes (Sp.szB a) (ks.take k)+Sp.size tk) 1000000):=sizes_take _ ht
     have hT:=Sp.TrsOK_mem ks tk HKS.out (List.mem_of_getElem? ht)
     have hbt:=Sp.size_bd tk hT.1 hT.2
     clear hq ht hT hcell
     go_wp2_with fail
     have hcall:=HC.out
     unfold SizeC at hcall
     refine hcall.mono ?_
     clear hcall
     rintro e w' ⟨rfl,hw'⟩
     subst hw'
     go_wp2_with fail
     all_goals
      go_round
      case rel=>exact⟨k+1,by omega,by go_num,by rw [HN.out];exact int_eq (by omega)⟩
      case measure=>simp [intOf];omega
    ·have hS0:=hbd.1
     have hS1:=hbd.2
     have HS0:Hid (Sp.sizes (Sp.szB a) ks=Sp.sizes (Sp.szB a) (ks.take k)):=by show _=_;rw [List.take_of_length_le (by have:=HL.out;omega)]
     clear hbd
     generalize hgS:Sp.sizes (Sp.szB a) (ks.take k)=S at *
     have HS:Hid (Sp.sizes (Sp.szB a) ks=S):=HS0.out
     clear hgS HS0 hcell
     have HZ:Hid (Sp.size ⟨a,ks⟩=Sp.sz1 a S):=by show Sp.sz1 a _=_;rw [show Sp.sizes (Sp.szB a) ks=S from HS.out]
     have hk0:a.kind≠3:=by omega
     by_cases hm:a.min < 0
     ·skip
      go_wp2_with fail
      all_goals
       go_ret
       exact⟨ret_int (by rw [show Sp.size ⟨a,ks⟩=_ from HZ.out,sz_a (a:=a) (show a.min < 0 by omega) hk0]<;>first|omega|(dsimp only;omega)|omega),rfl⟩
     by_cases hM:a.max < 0
     ·by_cases h5:1≤a.min
      ·have HM:Hid (max a.min 1=a.min):=by show _=_;omega
       have hbd:=mul_bd (S:=S) (m:=a.min) hS0 hS1 (by omega) (by omega)
       go_wp2_with fail
       all_goals
        go_ret
        exact⟨ret_int (by rw [show Sp.size ⟨a,ks⟩=_ from HZ.out,sz_b (a:=a) (m:=a.min) (show ¬ a.min < 0 by omega) (show a.max < 0 by omega) hk0 HM.out]<;>first|omega|(dsimp only;omega)|omega),rfl⟩
      ·have HM:Hid (max a.min 1=1):=by show _=_;omega
       go_wp2_with fail
       all_goals
        go_ret
        exact⟨ret_int (by rw [show Sp.size ⟨a,ks⟩=_ from HZ.out,sz_b (a:=a) (m:=1) (show ¬ a.min < 0 by omega) (show a.max < 0 by omega) hk0 HM.out]<;>first|omega|(dsimp only;omega)|omega),rfl⟩
     ·have hbd:=mul_bd (S:=S) (m:=a.max) hS0 hS1 (by omega) (by omega)
      go_wp2_with fail
      all_goals
       go_ret
       exact⟨ret_int (by rw [show Sp.size ⟨a,ks⟩=_ from HZ.out,sz_c (a:=a) (show ¬ a.min < 0 by omega) (show ¬ a.max < 0 by omega) hk0]<;>first|omega|(dsimp only;omega)|omega),rfl⟩
set_option maxHeartbeats 2000000 in
theorem size_40 (p:Nat) (a:Lab) (ks:List Tr) (l:Value) (qs:List Nat) (w:World) (h:NodeAt w p a l qs) (ha:Sp.LabOK a) (hks:Sp.TrsOK ks) (hlen:qs.length=ks.length) (hih:∀ (i q:Nat) (t:Tr),qs[i]?=some q→ks[i]?=some t→SizeC q t w) (hql:qs.length≤1000) (hk:a.kind=3) (hk':kindOf a.kind=40) :
  SizeC p ⟨a,ks⟩ w:=by
 obtain⟨p0,p1,p258,p259,p260,p261,p262,p263,pz⟩:=h.pt.facts
 have h0:=ha.min0
 have h1:=ha.min1
 have h2:=ha.max0
 have h3:=ha.max1
 have HIH:Hid (∀ (i q:Nat) (t:Tr),qs[i]?=some q→ks[i]?=some t→SizeC q t w):=hih
 have HA:Hid (Sp.LabOK a):=ha
 have HKS:Hid (Sp.TrsOK ks):=hks
 have HL:Hid (qs.length=ks.length):=hlen
 have q0:w.cell? ⟨p,0,none⟩=some (.int .u8 (kindOf a.kind)):=p0
 have q1:w.cell? ⟨p,1,none⟩=some l:=p1
 have q262:w.cell? ⟨p,262,none⟩=some (.int .i64 a.min):=p262
 have q263:w.cell? ⟨p,263,none⟩=some (.int .i64 a.max):=p263
 have HB:Hid (0≤Sp.szB a∧Sp.szB a≤1):=by unfold Hid Sp.szB;split<;>omega
 clear p0 p1 p258 p259 p260 p261 p262 p263 pz ha hks hih hlen
 unfold SizeC
 rcases own_cells h.own with ⟨hl,hqs⟩|⟨g,cap,hl,hcap,hmax,hcell⟩
 ·subst hl
  subst hqs
  have hks0:ks=[]:=List.eq_nil_of_length_eq_zero (by have:=HL.out;simpa using this.symm)
  subst hks0
  clear h
  ·have HS:Hid (Sp.sizes (Sp.szB a) []=0):=by show _=_;rw [Sp.sizes];unfold Sp.szB;rw [if_neg (by omega)]
   rw [hk'] at q0
   clear hk'
   have HZ:Hid (Sp.size ⟨a,[]⟩=Sp.sz1 { a with kind:=0 } 1):=by show Sp.sz1 a _=_;rw [show Sp.sizes (Sp.szB a) []=0 from HS.out,sz_g hk];rfl
   have hk0:({ a with kind:=0 }:Lab).kind≠3:=by simp
   by_cases hm:a.min < 0
   ·skip
    go_enter Tryz.func44,Tryz.ntmps44
    go_wp2_with fail
    refine wp_loop_rounds 1 ?_
    rw [rounds_succ]
    go_wp2_with fail
    all_goals
     go_ret
     exact⟨ret_int (by rw [show Sp.size ⟨a,[]⟩=_ from HZ.out,sz_a (a:={ a with kind:=0 }) (show a.min < 0 by omega) hk0]<;>first|omega|(dsimp only;omega)|omega),rfl⟩
   by_cases hM:a.max < 0
   ·by_cases h5:1≤a.min
    ·have HM:Hid (max a.min 1=a.min):=by show _=_;omega
     have hbd:=mul_bd (S:=1) (m:=a.min) (by omega) (by omega) (by omega) (by omega)
     go_enter Tryz.func44,Tryz.ntmps44
     go_wp2_with fail
     refine wp_loop_rounds 1 ?_
     rw [rounds_succ]
     go_wp2_with fail
     all_goals
      go_ret
      exact⟨ret_int (by rw [show Sp.size ⟨a,[]⟩=_ from HZ.out,sz_b (a:={ a with kind:=0 }) (m:=a.min) (show ¬ a.min < 0 by omega) (show a.max < 0 by omega) hk0 HM.out]<;>first|omega|(dsimp only;omega)|omega),rfl⟩
    ·have HM:Hid (max a.min 1=1):=by show _=_;omega
     go_enter Tryz.func44,Tryz.ntmps44
     go_wp2_with fail
     refine wp_loop_rounds 1 ?_
     rw [rounds_succ]
     go_wp2_with fail
     all_goals
      go_ret
      exact⟨ret_int (by rw [show Sp.size ⟨a,[]⟩=_ from HZ.out,sz_b (a:={ a with kind:=0 }) (m:=1) (show ¬ a.min < 0 by omega) (show a.max < 0 by omega) hk0 HM.out]<;>first|omega|(dsimp only;omega)|omega),rfl⟩
   ·have hbd:=mul_bd (S:=1) (m:=a.max) (by omega) (by omega) (by omega) (by omega)
    go_enter Tryz.func44,Tryz.ntmps44
    go_wp2_with fail
    refine wp_loop_rounds 1 ?_
    rw [rounds_succ]
    go_wp2_with fail
    all_goals
     go_ret
     exact⟨ret_int (by rw [show Sp.size ⟨a,[]⟩=_ from HZ.out,sz_c (a:={ a with kind:=0 }) (show ¬ a.min < 0 by omega) (show ¬ a.max < 0 by omega) hk0]<;>first|omega|(dsimp only;omega)|omega),rfl⟩
 ·subst hl
  clear h hcap hmax
  ·have HB1:Hid (Sp.szB a=0):=by show _=_;unfold Sp.szB;rw [if_neg (by omega)]
   rw [hk'] at q0
   clear hk'
   go_enter Tryz.func44,Tryz.ntmps44
   go_wp2_with fail
   go_loop [3,4] (fun n i=>∃ k:Nat,k≤qs.length∧i=.int .i64 k∧n=.int .i64 (Sp.sizes (Sp.szB a) (ks.take k))) (fun _ i=>qs.length - (intOf i).toNat)
   case atStart=>exact⟨0,by omega,rfl,by rw [HB1.out,List.take_zero,Sp.sizes]⟩
   case round=>
    obtain⟨k,hk1,rfl,rfl⟩:=hrel
    have hbd:=Sp.sizes_bd (ks.take k) (Sp.szB a) (TrsOK_take HKS.out k) HB.out.1 (by have:=HB.out.2;omega)
    by_cases hlt:k < qs.length
    ·obtain⟨q,hq⟩:∃ q,qs[k]?=some q:=⟨_,List.getElem?_eq_getElem hlt⟩
     obtain⟨tk,ht⟩:∃ t,ks[k]?=some t:=⟨_,List.getElem?_eq_getElem (by have:=HL.out;omega)⟩
     have hc:=hcell k q hq
     unfold ptr at hc
     have HC:Hid (SizeC q tk w):=HIH.out k q tk hq ht
     have HN:Hid (Sp.sizes (Sp.szB a) (ks.take (k+1))=min (Sp.sizes (Sp.szB a) (ks.take k)+Sp.size tk) 1000000):=sizes_take _ ht
     have hT:=Sp.TrsOK_mem ks tk HKS.out (List.mem_of_getElem? ht)
     have hbt:=Sp.size_bd tk hT.1 hT.2
     clear hq ht hT hcell
     go_wp2_with fail
     have hcall:=HC.out
     unfold SizeC at hcall
     refine hcall.mono ?_
     clear hcall
     rintro e w' ⟨rfl,hw'⟩
     subst hw'
     go_wp2_with fail
     all_goals
      go_round
      case rel=>exact⟨k+1,by omega,by go_num,by rw [HN.out];exact int_eq (by omega)⟩
      case measure=>simp [intOf];omega
    ·have hS0:=hbd.1
     have hS1:=hbd.2
     have HS0:Hid (Sp.sizes (Sp.szB a) ks=Sp.sizes (Sp.szB a) (ks.take k)):=by show _=_;rw [List.take_of_length_le (by have:=HL.out;omega)]
     clear hbd
     generalize hgS:Sp.sizes (Sp.szB a) (ks.take k)=S at *
     have HS:Hid (Sp.sizes (Sp.szB a) ks=S):=HS0.out
     clear hgS HS0 hcell
     have HZ:Hid (Sp.size ⟨a,ks⟩=Sp.sz1 { a with kind:=0 } (max S 1)):=by show Sp.sz1 a _=_;rw [show Sp.sizes (Sp.szB a) ks=S from HS.out,sz_g hk]
     have hk0:({ a with kind:=0 }:Lab).kind≠3:=by simp
     by_cases hS2:1≤S
     ·have hmS:max S 1=S:=by omega
      rw [hmS] at HZ
      by_cases hm:a.min < 0
      ·clear hmS;skip
       go_wp2_with fail
       all_goals
        go_ret
        exact⟨ret_int (by rw [show Sp.size ⟨a,ks⟩=_ from HZ.out,sz_a (a:={ a with kind:=0 }) (show a.min < 0 by omega) hk0]<;>first|omega|(dsimp only;omega)|omega),rfl⟩
      by_cases hM:a.max < 0
      ·by_cases h5:1≤a.min
       ·have HM:Hid (max a.min 1=a.min):=by show _=_;omega
        have hbd:=mul_bd (S:=S) (m:=a.min) hS0 hS1 (by omega) (by omega)
        go_wp2_with fail
        all_goals
         go_ret
         exact⟨ret_int (by rw [show Sp.size ⟨a,ks⟩=_ from HZ.out,sz_b (a:={ a with kind:=0 }) (m:=a.min) (show ¬ a.min < 0 by omega) (show a.max < 0 by omega) hk0 HM.out]<;>first|omega|(dsimp only;omega)|omega),rfl⟩
       ·have HM:Hid (max a.min 1=1):=by show _=_;omega
        go_wp2_with fail
        all_goals
         go_ret
         exact⟨ret_int (by rw [show Sp.size ⟨a,ks⟩=_ from HZ.out,sz_b (a:={ a with kind:=0 }) (m:=1) (show ¬ a.min < 0 by omega) (show a.max < 0 by omega) hk0 HM.out]<;>first|omega|(dsimp only;omega)|omega),rfl⟩
      ·have hbd:=mul_bd (S:=S) (m:=a.max) hS0 hS1 (by omega) (by omega)
       go_wp2_with fail
       all_goals
        go_ret
        exact⟨ret_int (by rw [show Sp.size ⟨a,ks⟩=_ from HZ.out,sz_c (a:={ a with kind:=0 }) (show ¬ a.min < 0 by omega) (show ¬ a.max < 0 by omega) hk0]<;>first|omega|(dsimp only;omega)|omega),rfl⟩
     ·have hmS:max S 1=1:=by omega
      rw [hmS] at HZ
      by_cases hm:a.min < 0
      ·clear hmS;skip
       go_wp2_with fail
       all_goals
        go_ret
        exact⟨ret_int (by rw [show Sp.size ⟨a,ks⟩=_ from HZ.out,sz_a (a:={ a with kind:=0 }) (show a.min < 0 by omega) hk0]<;>first|omega|(dsimp only;omega)|omega),rfl⟩
      by_cases hM:a.max < 0
      ·by_cases h5:1≤a.min
       ·have HM:Hid (max a.min 1=a.min):=by show _=_;omega
        have hbd:=mul_bd (S:=1) (m:=a.min) (by omega) (by omega) (by omega) (by omega)
        go_wp2_with fail
        all_goals
         go_ret
         exact⟨ret_int (by rw [show Sp.size ⟨a,ks⟩=_ from HZ.out,sz_b (a:={ a with kind:=0 }) (m:=a.min) (show ¬ a.min < 0 by omega) (show a.max < 0 by omega) hk0 HM.out]<;>first|omega|(dsimp only;omega)|omega),rfl⟩
       ·have HM:Hid (max a.min 1=1):=by show _=_;omega
        go_wp2_with fail
        all_goals
         go_ret
         exact⟨ret_int (by rw [show Sp.size ⟨a,ks⟩=_ from HZ.out,sz_b (a:={ a with kind:=0 }) (m:=1) (show ¬ a.min < 0 by omega) (show a.max < 0 by omega) hk0 HM.out]<;>first|omega|(dsimp only;omega)|omega),rfl⟩
      ·have hbd:=mul_bd (S:=1) (m:=a.max) (by omega) (by omega) (by omega) (by omega)
       go_wp2_with fail
       all_goals
        go_ret
        exact⟨ret_int (by rw [show Sp.size ⟨a,ks⟩=_ from HZ.out,sz_c (a:={ a with kind:=0 }) (show ¬ a.min < 0 by omega) (show ¬ a.max < 0 by omega) hk0]<;>first|omega|(dsimp only;omega)|omega),rfl⟩
set_option maxHeartbeats 2000000 in
theorem size_124 (p:Nat) (a:Lab) (ks:List Tr) (l:Value) (qs:List Nat) (w:World) (h:NodeAt w p a l qs) (ha:Sp.LabOK a) (hks:Sp.TrsOK ks) (hlen:qs.length=ks.length) (hih:∀ (i q:Nat) (t:Tr),qs[i]?=some q→ks[i]?=some t→SizeC q t w) (hql:qs.length≤1000) (hk:a.kind=4) (hk':kindOf a.kind=124) :
  SizeC p ⟨a,ks⟩ w:=by
 obtain⟨p0,p1,p258,p259,p260,p261,p262,p263,pz⟩:=h.pt.facts
 have h0:=ha.min0
 have h1:=ha.min1
 have h2:=ha.max0
 have h3:=ha.max1
 have HIH:Hid (∀ (i q:Nat) (t:Tr),qs[i]?=some q→ks[i]?=some t→SizeC q t w):=hih
 have HA:Hid (Sp.LabOK a):=ha
 have HKS:Hid (Sp.TrsOK ks):=hks
 have HL:Hid (qs.length=ks.length):=hlen
 have q0:w.cell? ⟨p,0,none⟩=some (.int .u8 (kindOf a.kind)):=p0
 have q1:w.cell? ⟨p,1,none⟩=some l:=p1
 have q262:w.cell? ⟨p,262,none⟩=some (.int .i64 a.min):=p262
 have q263:w.cell? ⟨p,263,none⟩=some (.int .i64 a.max):=p263
 have HB:Hid (0≤Sp.szB a∧Sp.szB a≤1):=by unfold Hid Sp.szB;split<;>omega
 clear p0 p1 p258 p259 p260 p261 p262 p263 pz ha hks hih hlen
 unfold SizeC
 rcases own_cells h.own with ⟨hl,hqs⟩|⟨g,cap,hl,hcap,hmax,hcell⟩
 ·subst hl
  subst hqs
  have hks0:ks=[]:=List.eq_nil_of_length_eq_zero (by have:=HL.out;simpa using this.symm)
  subst hks0
  clear h
  ·have HS:Hid (Sp.sizes (Sp.szB a) []=0):=by show _=_;rw [Sp.sizes];unfold Sp.szB;rw [if_neg (by omega)]
   rw [hk'] at q0
   clear hk'
   have HZ:Hid (Sp.size ⟨a,[]⟩=Sp.sz1 a 0):=by show Sp.sz1 a _=_;rw [show Sp.sizes (Sp.szB a) []=0 from HS.out]
   have hk0:a.kind≠3:=by omega
   by_cases hm:a.min < 0
   ·skip
    go_enter Tryz.func44,Tryz.ntmps44
    go_wp2_with fail
    refine wp_loop_rounds 1 ?_
    rw [rounds_succ]
    go_wp2_with fail
    all_goals
     go_ret
     exact⟨ret_int (by rw [show Sp.size ⟨a,[]⟩=_ from HZ.out,sz_a (a:=a) (show a.min < 0 by omega) hk0]<;>first|omega|(dsimp only;omega)|omega),rfl⟩
   by_cases hM:a.max < 0
   ·by_cases h5:1≤a.min
    ·have HM:Hid (max a.min 1=a.min):=by show _=_;omega
     have hbd:=mul_bd (S:=0) (m:=a.min) (by omega) (by omega) (by omega) (by omega)
     go_enter Tryz.func44,Tryz.ntmps44
     go_wp2_with fail
     refine wp_loop_rounds 1 ?_
     rw [rounds_succ]
     go_wp2_with fail
     all_goals
      go_ret
      exact⟨ret_int (by rw [show Sp.size ⟨a,[]⟩=_ from HZ.out,sz_b (a:=a) (m:=a.min) (show ¬ a.min < 0 by omega) (show a.max < 0 by omega) hk0 HM.out]<;>first|omega|(dsimp only;omega)|omega),rfl⟩
    ·have HM:Hid (max a.min 1=1):=by show _=_;omega
     go_enter Tryz.func44,Tryz.ntmps44
     go_wp2_with fail
     refine wp_loop_rounds 1 ?_
     rw [rounds_succ]
     go_wp2_with fail
     all_goals
      go_ret
      exact⟨ret_int (by rw [show Sp.size ⟨a,[]⟩=_ from HZ.out,sz_b (a:=a) (m:=1) (show ¬ a.min < 0 by omega) (show a.max < 0 by omega) hk0 HM.out]<;>first|omega|(dsimp only;omega)|omega),rfl⟩
   ·have hbd:=mul_bd (S:=0) (m:=a.max) (by omega) (by omega) (by omega) (by omega)
    go_enter Tryz.func44,Tryz.ntmps44
    go_wp2_with fail
    refine wp_loop_rounds 1 ?_
    rw [rounds_succ]
    go_wp2_with fail
    all_goals
     go_ret
     exact⟨ret_int (by rw [show Sp.size ⟨a,[]⟩=_ from HZ.out,sz_c (a:=a) (show ¬ a.min < 0 by omega) (show ¬ a.max < 0 by omega) hk0]<;>first|omega|(dsimp only;omega)|omega),rfl⟩
 ·subst hl
  clear h hcap hmax
  ·have HB1:Hid (Sp.szB a=0):=by show _=_;unfold Sp.szB;rw [if_neg (by omega)]
   rw [hk'] at q0
   clear hk'
   go_enter Tryz.func44,Tryz.ntmps44
   go_wp2_with fail
   go_loop [3,4] (fun n i=>∃ k:Nat,k≤qs.length∧i=.int .i64 k∧n=.int .i64 (Sp.sizes (Sp.szB a) (ks.take k))) (fun _ i=>qs.length - (intOf i).toNat)
   case atStart=>exact⟨0,by omega,rfl,by rw [HB1.out,List.take_zero,Sp.sizes]⟩
   case round=>
    obtain⟨k,hk1,rfl,rfl⟩:=hrel
    have hbd:=Sp.sizes_bd (ks.take k) (Sp.szB a) (TrsOK_take HKS.out k) HB.out.1 (by have:=HB.out.2;omega)
    by_cases hlt:k < qs.length
    ·obtain⟨q,hq⟩:∃ q,qs[k]?=some q:=⟨_,List.getElem?_eq_getElem hlt⟩
     obtain⟨tk,ht⟩:∃ t,ks[k]?=some t:=⟨_,List.getElem?_eq_getElem (by have:=HL.out;omega)⟩
     have hc:=hcell k q hq
     unfold ptr at hc
     have HC:Hid (SizeC q tk w):=HIH.out k q tk hq ht
     have HN:Hid (Sp.sizes (Sp.szB a) (ks.take (k+1))=min (Sp.sizes (Sp.szB a) (ks.take k)+Sp.size tk) 1000000):=sizes_take _ ht
     have hT:=Sp.TrsOK_mem ks tk HKS.out (List.mem_of_getElem? ht)
     have hbt:=Sp.size_bd tk hT.1 hT.2
     clear hq ht hT hcell
     go_wp2_with fail
     have hcall:=HC.out
     unfold SizeC at hcall
     refine hcall.mono ?_
     clear hcall
     rintro e w' ⟨rfl,hw'⟩
     subst hw'
     go_wp2_with fail
     all_goals
      go_round
      case rel=>exact⟨k+1,by omega,by go_num,by rw [HN.out];exact int_eq (by omega)⟩
      case measure=>simp [intOf];omega
    ·have hS0:=hbd.1
     have hS1:=hbd.2
     have HS0:Hid (Sp.sizes (Sp.szB a) ks=Sp.sizes (Sp.szB a) (ks.take k)):=by show _=_;rw [List.take_of_length_le (by have:=HL.out;omega)]
     clear hbd
     generalize hgS:Sp.sizes (Sp.szB a) (ks.take k)=S at *
     have HS:Hid (Sp.sizes (Sp.szB a) ks=S):=HS0.out
     clear hgS HS0 hcell
     have HZ:Hid (Sp.size ⟨a,ks⟩=Sp.sz1 a S):=by show Sp.sz1 a _=_;rw [show Sp.sizes (Sp.szB a) ks=S from HS.out]
     have hk0:a.kind≠3:=by omega
     by_cases hm:a.min < 0
     ·skip
      go_wp2_with fail
      all_goals
       go_ret
       exact⟨ret_int (by rw [show Sp.size ⟨a,ks⟩=_ from HZ.out,sz_a (a:=a) (show a.min < 0 by omega) hk0]<;>first|omega|(dsimp only;omega)|omega),rfl⟩
     by_cases hM:a.max < 0
     ·by_cases h5:1≤a.min
      ·have HM:Hid (max a.min 1=a.min):=by show _=_;omega
       have hbd:=mul_bd (S:=S) (m:=a.min) hS0 hS1 (by omega) (by omega)
       go_wp2_with fail
       all_goals
        go_ret
        exact⟨ret_int (by rw [show Sp.size ⟨a,ks⟩=_ from HZ.out,sz_b (a:=a) (m:=a.min) (show ¬ a.min < 0 by omega) (show a.max < 0 by omega) hk0 HM.out]<;>first|omega|(dsimp only;omega)|omega),rfl⟩
      ·have HM:Hid (max a.min 1=1):=by show _=_;omega
       go_wp2_with fail
       all_goals
        go_ret
        exact⟨ret_int (by rw [show Sp.size ⟨a,ks⟩=_ from HZ.out,sz_b (a:=a) (m:=1) (show ¬ a.min < 0 by omega) (show a.max < 0 by omega) hk0 HM.out]<;>first|omega|(dsimp only;omega)|omega),rfl⟩
     ·have hbd:=mul_bd (S:=S) (m:=a.max) hS0 hS1 (by omega) (by omega)
      go_wp2_with fail
      all_goals
       go_ret
       exact⟨ret_int (by rw [show Sp.size ⟨a,ks⟩=_ from HZ.out,sz_c (a:=a) (show ¬ a.min < 0 by omega) (show ¬ a.max < 0 by omega) hk0]<;>first|omega|(dsimp only;omega)|omega),rfl⟩
set_option maxHeartbeats 2000000 in
theorem size_32 (p:Nat) (a:Lab) (ks:List Tr) (l:Value) (qs:List Nat) (w:World) (h:NodeAt w p a l qs) (ha:Sp.LabOK a) (hks:Sp.TrsOK ks) (hlen:qs.length=ks.length) (hih:∀ (i q:Nat) (t:Tr),qs[i]?=some q→ks[i]?=some t→SizeC q t w) (hql:qs.length≤1000) (hk:a.kind=5) (hk':kindOf a.kind=32) :
  SizeC p ⟨a,ks⟩ w:=by
 obtain⟨p0,p1,p258,p259,p260,p261,p262,p263,pz⟩:=h.pt.facts
 have h0:=ha.min0
 have h1:=ha.min1
 have h2:=ha.max0
 have h3:=ha.max1
 have HIH:Hid (∀ (i q:Nat) (t:Tr),qs[i]?=some q→ks[i]?=some t→SizeC q t w):=hih
 have HA:Hid (Sp.LabOK a):=ha
 have HKS:Hid (Sp.TrsOK ks):=hks
 have HL:Hid (qs.length=ks.length):=hlen
 have q0:w.cell? ⟨p,0,none⟩=some (.int .u8 (kindOf a.kind)):=p0
 have q1:w.cell? ⟨p,1,none⟩=some l:=p1
 have q262:w.cell? ⟨p,262,none⟩=some (.int .i64 a.min):=p262
 have q263:w.cell? ⟨p,263,none⟩=some (.int .i64 a.max):=p263
 have HB:Hid (0≤Sp.szB a∧Sp.szB a≤1):=by unfold Hid Sp.szB;split<;>omega
 clear p0 p1 p258 p259 p260 p261 p262 p263 pz ha hks hih hlen
 unfold SizeC
 rcases own_cells h.own with ⟨hl,hqs⟩|⟨g,cap,hl,hcap,hmax,hcell⟩
 ·subst hl
  subst hqs
  have hks0:ks=[]:=List.eq_nil_of_length_eq_zero (by have:=HL.out;simpa using this.symm)
  subst hks0
  clear h
  ·have HS:Hid (Sp.sizes (Sp.szB a) []=0):=by show _=_;rw [Sp.sizes];unfold Sp.szB;rw [if_neg (by omega)]
   rw [hk'] at q0
   clear hk'
   have HZ:Hid (Sp.size ⟨a,[]⟩=Sp.sz1 a 0):=by show Sp.sz1 a _=_;rw [show Sp.sizes (Sp.szB a) []=0 from HS.out]
   have hk0:a.kind≠3:=by omega
   by_cases hm:a.min < 0
   ·skip
    go_enter Tryz.func44,Tryz.ntmps44
    go_wp2_with fail
    refine wp_loop_rounds 1 ?_
    rw [rounds_succ]
    go_wp2_with fail
    all_goals
     go_ret
     exact⟨ret_int (by rw [show Sp.size ⟨a,[]⟩=_ from HZ.out,sz_a (a:=a) (show a.min < 0 by omega) hk0]<;>first|omega|(dsimp only;omega)|omega),rfl⟩
   by_cases hM:a.max < 0
   ·by_cases h5:1≤a.min
    ·have HM:Hid (max a.min 1=a.min):=by show _=_;omega
     have hbd:=mul_bd (S:=0) (m:=a.min) (by omega) (by omega) (by omega) (by omega)
     go_enter Tryz.func44,Tryz.ntmps44
     go_wp2_with fail
     refine wp_loop_rounds 1 ?_
     rw [rounds_succ]
     go_wp2_with fail
     all_goals
      go_ret
      exact⟨ret_int (by rw [show Sp.size ⟨a,[]⟩=_ from HZ.out,sz_b (a:=a) (m:=a.min) (show ¬ a.min < 0 by omega) (show a.max < 0 by omega) hk0 HM.out]<;>first|omega|(dsimp only;omega)|omega),rfl⟩
    ·have HM:Hid (max a.min 1=1):=by show _=_;omega
     go_enter Tryz.func44,Tryz.ntmps44
     go_wp2_with fail
     refine wp_loop_rounds 1 ?_
     rw [rounds_succ]
     go_wp2_with fail
     all_goals
      go_ret
      exact⟨ret_int (by rw [show Sp.size ⟨a,[]⟩=_ from HZ.out,sz_b (a:=a) (m:=1) (show ¬ a.min < 0 by omega) (show a.max < 0 by omega) hk0 HM.out]<;>first|omega|(dsimp only;omega)|omega),rfl⟩
   ·have hbd:=mul_bd (S:=0) (m:=a.max) (by omega) (by omega) (by omega) (by omega)
    go_enter Tryz.func44,Tryz.ntmps44
    go_wp2_with fail
    refine wp_loop_rounds 1 ?_
    rw [rounds_succ]
    go_wp2_with fail
    all_goals
     go_ret
     exact⟨ret_int (by rw [show Sp.size ⟨a,[]⟩=_ from HZ.out,sz_c (a:=a) (show ¬ a.min < 0 by omega) (show ¬ a.max < 0 by omega) hk0]<;>first|omega|(dsimp only;omega)|omega),rfl⟩
 ·subst hl
  clear h hcap hmax
  ·have HB1:Hid (Sp.szB a=0):=by show _=_;unfold Sp.szB;rw [if_neg (by omega)]
   rw [hk'] at q0
   clear hk'
   go_enter Tryz.func44,Tryz.ntmps44
   go_wp2_with fail
   go_loop [3,4] (fun n i=>∃ k:Nat,k≤qs.length∧i=.int .i64 k∧n=.int .i64 (Sp.sizes (Sp.szB a) (ks.take k))) (fun _ i=>qs.length - (intOf i).toNat)
   case atStart=>exact⟨0,by omega,rfl,by rw [HB1.out,List.take_zero,Sp.sizes]⟩
   case round=>
    obtain⟨k,hk1,rfl,rfl⟩:=hrel
    have hbd:=Sp.sizes_bd (ks.take k) (Sp.szB a) (TrsOK_take HKS.out k) HB.out.1 (by have:=HB.out.2;omega)
    by_cases hlt:k < qs.length
    ·obtain⟨q,hq⟩:∃ q,qs[k]?=some q:=⟨_,List.getElem?_eq_getElem hlt⟩
     obtain⟨tk,ht⟩:∃ t,ks[k]?=some t:=⟨_,List.getElem?_eq_getElem (by have:=HL.out;omega)⟩
     have hc:=hcell k q hq
     unfold ptr at hc
     have HC:Hid (SizeC q tk w):=HIH.out k q tk hq ht
     have HN:Hid (Sp.sizes (Sp.szB a) (ks.take (k+1))=min (Sp.sizes (Sp.szB a) (ks.take k)+Sp.size tk) 1000000):=sizes_take _ ht
     have hT:=Sp.TrsOK_mem ks tk HKS.out (List.mem_of_getElem? ht)
     have hbt:=Sp.size_bd tk hT.1 hT.2
     clear hq ht hT hcell
     go_wp2_with fail
     have hcall:=HC.out
     unfold SizeC at hcall
     refine hcall.mono ?_
     clear hcall
     rintro e w' ⟨rfl,hw'⟩
     subst hw'
     go_wp2_with fail
     all_goals
      go_round
      case rel=>exact⟨k+1,by omega,by go_num,by rw [HN.out];exact int_eq (by omega)⟩
      case measure=>simp [intOf];omega
    ·have hS0:=hbd.1
     have hS1:=hbd.2
     have HS0:Hid (Sp.sizes (Sp.szB a) ks=Sp.sizes (Sp.szB a) (ks.take k)):=by show _=_;rw [List.take_of_length_le (by have:=HL.out;omega)]
     clear hbd
     generalize hgS:Sp.sizes (Sp.szB a) (ks.take k)=S at *
     have HS:Hid (Sp.sizes (Sp.szB a) ks=S):=HS0.out
     clear hgS HS0 hcell
     have HZ:Hid (Sp.size ⟨a,ks⟩=Sp.sz1 a S):=by show Sp.sz1 a _=_;rw [show Sp.sizes (Sp.szB a) ks=S from HS.out]
     have hk0:a.kind≠3:=by omega
     by_cases hm:a.min < 0
     ·skip
      go_wp2_with fail
      all_goals
       go_ret
       exact⟨ret_int (by rw [show Sp.size ⟨a,ks⟩=_ from HZ.out,sz_a (a:=a) (show a.min < 0 by omega) hk0]<;>first|omega|(dsimp only;omega)|omega),rfl⟩
     by_cases hM:a.max < 0
     ·by_cases h5:1≤a.min
      ·have HM:Hid (max a.min 1=a.min):=by show _=_;omega
       have hbd:=mul_bd (S:=S) (m:=a.min) hS0 hS1 (by omega) (by omega)
       go_wp2_with fail
       all_goals
        go_ret
        exact⟨ret_int (by rw [show Sp.size ⟨a,ks⟩=_ from HZ.out,sz_b (a:=a) (m:=a.min) (show ¬ a.min < 0 by omega) (show a.max < 0 by omega) hk0 HM.out]<;>first|omega|(dsimp only;omega)|omega),rfl⟩
      ·have HM:Hid (max a.min 1=1):=by show _=_;omega
       go_wp2_with fail
       all_goals
        go_ret
        exact⟨ret_int (by rw [show Sp.size ⟨a,ks⟩=_ from HZ.out,sz_b (a:=a) (m:=1) (show ¬ a.min < 0 by omega) (show a.max < 0 by omega) hk0 HM.out]<;>first|omega|(dsimp only;omega)|omega),rfl⟩
     ·have hbd:=mul_bd (S:=S) (m:=a.max) hS0 hS1 (by omega) (by omega)
      go_wp2_with fail
      all_goals
       go_ret
       exact⟨ret_int (by rw [show Sp.size ⟨a,ks⟩=_ from HZ.out,sz_c (a:=a) (show ¬ a.min < 0 by omega) (show ¬ a.max < 0 by omega) hk0]<;>first|omega|(dsimp only;omega)|omega),rfl⟩
theorem size_core (p:Nat) (a:Lab) (ks:List Tr) (l:Value) (qs:List Nat) (w:World) (h:NodeAt w p a l qs) (ha:Sp.LabOK a) (hks:Sp.TrsOK ks) (hlen:qs.length=ks.length) (hih:∀ (i q:Nat) (t:Tr),qs[i]?=some q→ks[i]?=some t→SizeC q t w) (hql:qs.length≤1000):SizeC p ⟨a,ks⟩ w:=by
 rcases kind_cases ha.kind with ⟨hk,hk'⟩|⟨hk,hk'⟩|⟨hk,hk'⟩|⟨hk,hk'⟩
 ·exact size_98 p a ks l qs w h ha hks hlen hih hql hk hk'
 ·exact size_40 p a ks l qs w h ha hks hlen hih hql hk hk'
 ·exact size_124 p a ks l qs w h ha hks hlen hih hql hk hk'
 ·exact size_32 p a ks l qs w h ha hks hlen hih hql hk hk'
theorem size_all {w:World}:∀ (ts:List Tr) (S:Nat→Prop) (ps:List Nat),PartsAt w S ps ts→Sp.TrsOK ts→Few ts→∀ (i p:Nat) (t:Tr),ps[i]?=some p→ts[i]?=some t→SizeC p t w
 | [],_,_,_,_,_,i,_,_,_,h=>by simp at h
 | ⟨a,ks⟩::r,S,[],h,_,_,_,_,_,_,_=>(PartsAt_no1 h).elim
 | ⟨a,ks⟩::r,S,p::ps,h,ho,hf,0,q,t,h1,h2=>by
  simp at h1 h2;subst h1;subst h2
  rw [PartsAt_cons] at h
  rw [Sp.TrsOK] at ho
  rw [Few] at hf
  obtain⟨_,⟨l,qs,h3,h4,_,h5⟩,_⟩:=h
  have hl:=PartsAt.length _ _ h5
  exact size_core p a ks l qs w ⟨h3,h4⟩ ho.1 ho.2.1 hl (fun i q t hq ht=>size_all ks _ qs h5 ho.2.1 hf.2.1 i q t hq ht) (by omega)
 | ⟨a,ks⟩::r,S,p::ps,h,ho,hf,i+1,q,t,h1,h2=>by
  rw [PartsAt_cons] at h
  rw [Sp.TrsOK] at ho
  rw [Few] at hf
  exact size_all r S ps h.2.2 ho.2.2 hf.2.2 i q t (by simpa using h1) (by simpa using h2)
def ReadOut (s:ByteArray) (w:World) (res:Sp.Res (Tr×Int)) (k:Ending) (w':World):Prop:=
 Upd [] w w'∧match res with
 | .ok (t,n)=>∃ p r x,k=.returned (.tuple #[ptr p,ptr r])∧PartsAt w' (fun k=>w.heap.size≤k) [p] [t]∧Sp.Made [t]∧RdAt w' r s x∧x.e=0∧x.t=n∧w.heap.size≤r
 | .error (e,a)=>e≠0∧∃ pv r x,k=.returned (.tuple #[.pointer pv,ptr r])∧RdAt w' r s x∧x.e=e∧x.a=a∧w.heap.size≤r
theorem Upd.fresh {r:Nat} {w w':World} (h:Upd [r] w w') (hr:w.heap.size≤r):Upd [] w w':=
 ⟨h.os,h.tape,h.output,h.size,fun k hk _=>h.block k hk (by simp;omega)⟩
theorem newRd (s:ByteArray) (w:World):RdAt (w.alloc (.cells #[.string s,.int .i64 0,.int .i64 0,.int .i64 0,.int .i64 0,.int .i64 0,.slice none 0 0,.slice none 0 0] 80)) w.heap.size s ⟨0,0,0,0,0⟩:=by
 show (w.heap.push _)[w.heap.size]?=_;simp;rfl
theorem readOut_no {s:ByteArray} {w w':World} {res:Sp.Res (Tr×Int)} {pv:Option Addr} {i r:Nat} {e a d t:Int} (hq:res=.error (e,a)) (he:e≠0) (hu:Upd [r] w w') (hr:w.heap.size≤r) (hf:RdAt w' r s ⟨i,e,a,d,t⟩):ReadOut s w res (.returned (.tuple #[.pointer pv,.pointer (some ⟨r,0,none⟩)])) w':=by
 subst hq;exact⟨hu.fresh hr,he,pv,r,_,rfl,hf,rfl,rfl,hr⟩
theorem readOut_ok {s:ByteArray} {w w':World} {res:Sp.Res (Tr×Int)} {p i:Nat} {t:Tr} {n:Int} (hq:res=.ok (t,n)) (hu:Upd [w.heap.size] w w') (hp:PartsAt w' (fun k=>w.heap.size≤k) [p] [t]) (hm:Sp.Made [t]) (hf:RdAt w' w.heap.size s ⟨i,0,0,0,n⟩):ReadOut s w res (.returned (.tuple #[.pointer (some ⟨p,0,none⟩),.pointer (some ⟨w.heap.size,0,none⟩)])) w':=by
 subst hq;exact⟨hu.fresh (Nat.le_refl _),p,_,_,rfl,hp,hm,hf,rfl,rfl,Nat.le_refl _⟩
set_option maxHeartbeats 400000 in
theorem read_long (s:ByteArray) (w:World) (hs:200 < s.size) :
  Calls Tryz.prog 23 #[.string s] w (ReadOut s w (Sp.read s)):=by
 have HR:Hid (Sp.read s=.error (2,0)):=by show _=_;unfold Sp.read;rw [if_pos hs]
 have hs':(200:Int) < s.size:=by omega
 go_enter Tryz.func23,Tryz.ntmps23
 go_wp2_with fail
 refine (fail_any w.heap.size s ⟨0,0,0,0,0⟩ _ _ _ (by exact newRd s w)).mono ?_
 rw [RS.fail_ok rfl]
 rintro e w1 ⟨rfl,hu1,hf1⟩
 go_wp2_with fail
 go_ret2
 exact readOut_no HR.out (by decide) (((Upd.refl _ _).alloc _).trans hu1) (Nat.le_refl _) hf1
set_option maxHeartbeats 1000000 in
theorem read_short (s:ByteArray) (w:World) (hs:s.size≤200) :
  Calls Tryz.prog 23 #[.string s] w (ReadOut s w (Sp.read s)):=by
 have HR:Hid (Sp.read s=match Sp.choice s 9 ⟨0,0⟩ with | .error f=>.error f | .ok (t,y)=>if y.i < s.size then .error (3,y.i) else if Sp.size t > 60 then .error (7,0) else .ok (t,y.t)):=by show _=_;unfold Sp.read;rw [if_neg (by omega)];try rfl
 have hs':¬ (200:Int) < s.size:=by omega
 go_enter Tryz.func23,Tryz.ntmps23
 go_wp2_with fail
 refine (choice_all 9 (by decide) (by decide) w.heap.size s ⟨0,0,0,0,0⟩ _ (by exact newRd s w) hs rfl (Nat.zero_le _) rfl (by decide) (by decide)).mono ?_
 rintro e w2 ⟨hu2,hq2⟩
 have HU2:Hid (Upd [w.heap.size] w w2):=((Upd.refl _ _).alloc _).trans hu2
 clear hu2
 revert hq2
 cases hr2:Sp.choice s 9 ⟨0,0⟩
 case error f=>
  obtain⟨e1,a1⟩:=f
  rintro ⟨he1,p,i',t',ps2,rfl,hp2,hpq,hf2⟩
  have HE1:Hid (e1≠0):=he1
  have HR':Hid (Sp.read s=.error (e1,a1)):=by show _=_;rw [HR.out,hr2]
  have HF2:Hid (RdAt w2 w.heap.size s ⟨i',e1,a1,0,t'⟩):=hf2
  obtain⟨c0,c1,c2,c3,c4,c5,fz⟩:=hf2.facts
  have hb:(e1 == 0)=false:=by simpa using he1
  clear hr2 hf2 hpq he1
  unfold ptr
  go_wp2_with fail
  go_quiet (fail)
  go_wp2_with fail
  go_ret2
  exact readOut_no HR'.out HE1.out HU2.out.drewN (Nat.le_refl _) HF2.out
 case ok f=>
  obtain⟨t,y⟩:=f
  rintro ⟨p,rfl,hq2,hf2⟩
  have hm:=Sp.choice_makes s hs 9 ⟨0,0⟩ t y hr2 (Nat.zero_le _) (by decide) (by decide)
  have hy:=Sp.choice_good s 9 ⟨0,0⟩ t y hr2 (Nat.zero_le _) (by decide) (by decide)
  have HT2:Hid (PartsAt w2 (fun k=>w.heap.size≤k) [p] [t]):=PartsAt.mono _ _ _ _ hq2 (fun k hk _=>by simp at hk;omega)
  have HM:Hid (Sp.Made [t]):=hm
  have HF2:Hid (RdAt w2 w.heap.size s ⟨y.i,0,0,0,y.t⟩):=hf2
  have HC:Hid (Sp.choice s 9 ⟨0,0⟩=.ok (t,y)):=hr2
  obtain⟨c0,c1,c2,c3,c4,c5,fz⟩:=hf2.facts
  clear hr2 hf2 hq2
  unfold ptr
  by_cases hl:y.i < s.size
  ·have HR':Hid (Sp.read s=.error (3,y.i)):=by show _=_;rw [HR.out,HC.out];simp [hl]
   have hd:decide ((y.i:Int) < s.size)=true:=by simp;omega
   go_wp2_with fail
   go_quiet (fail)
   go_wp2_with fail
   refine (fail_any w.heap.size s ⟨y.i,0,0,0,y.t⟩ _ _ _ (by exact HF2.out)).mono ?_
   rw [RS.fail_ok rfl]
   rintro e w3 ⟨rfl,hu3,hf3⟩
   have HU3:Hid (Upd [w.heap.size] w w3):=HU2.out.trans hu3.pre
   have HF3:Hid (RdAt w3 w.heap.size s ⟨y.i,3,y.i,0,y.t⟩):=hf3
   clear hu3 hf3 c0 c1 c2 c3 c4 c5 fz
   obtain⟨c0,c1,c2,c3,c4,c5,fz⟩:=HF3.out.facts
   go_wp2_with fail
   go_ret2
   exact readOut_no HR'.out (by decide) HU3.out (Nat.le_refl _) HF3.out
  ·have hd:decide ((y.i:Int) < s.size)=false:=by simp;omega
   have HSZ:Hid (∀ n,SizeC p t (w2.drewN n)):=fun n=>size_all (w:=w2.drewN n) [t] _ [p] (PartsAt.same _ _ _ HT2.out (fun _ _ _=>rfl)) HM.out.1 HM.out.2 0 p t rfl rfl
   have hbd:=Sp.size_bd t HM.out.lab.1 HM.out.lab.2.1.1
   go_wp2_with fail
   go_quiet (fail)
   go_wp2_with fail
   have hcall:=HSZ.out
   unfold SizeC at hcall
   refine (hcall _).mono ?_
   clear hcall
   rintro e w3 ⟨rfl,hw3⟩
   have HF3:Hid (RdAt w3 w.heap.size s ⟨y.i,0,0,0,y.t⟩):=by rw [hw3];exact HF2.out
   have HU3:Hid (Upd [w.heap.size] w w3):=by rw [hw3];exact HU2.out.drewN
   have HT3:Hid (PartsAt w3 (fun k=>w.heap.size≤k) [p] [t]):=PartsAt.same _ _ _ HT2.out (fun _ _ _=>by rw [hw3];rfl)
   clear hw3
   by_cases hz:60 < Sp.size t
   ·have HR':Hid (Sp.read s=.error (7,0)):=by show _=_;rw [HR.out,HC.out];simp [hl,hz]
    go_wp2_with fail
    refine (fail_any w.heap.size s ⟨y.i,0,0,0,y.t⟩ _ _ _ (by exact HF3.out)).mono ?_
    rw [RS.fail_ok rfl]
    rintro e w4 ⟨rfl,hu4,hf4⟩
    go_wp2_with fail
    go_ret2
    exact readOut_no HR'.out (by decide) (HU3.out.trans hu4) (Nat.le_refl _) hf4
   ·have HR':Hid (Sp.read s=.ok (t,y.t)):=by show _=_;rw [HR.out,HC.out];simp [hl,hz]
    go_wp2_with fail
    go_ret2
    exact readOut_ok HR'.out HU3.out HT3.out HM.out HF3.out
theorem read_any (s:ByteArray) (w:World):Calls Tryz.prog 23 #[.string s] w (ReadOut s w (Sp.read s)):=by
 by_cases hs:s.size≤200
 ·exact read_short s w hs
 ·exact read_long s w (by omega)
end Go.Proofs.YtcpfpnjkfahjcaaGreat
