import Derived.Test.YtcpfpnjkfahjcaaGreatH07
import Derived.Test.YtcpfpnjkfahjcaaGreatH01
set_option linter.unusedSimpArgs false
set_option linter.unusedVariables false
namespace Go.Proofs.YtcpfpnjkfahjcaaGreat
open Go.RowKit
theorem upperR_bd {m:Int} {s:ByteArray} {i j:Nat} {v:Int} (h:upperR m s i=.ok (v,j)):-1≤v∧v≤20:=by
 unfold upperR at h;split at h
 ·have:=number_bd0 h;omega
 ·cases h;omega
theorem bounds_bd0 {s:ByteArray} {i j:Nat} {m n:Int} (h:Sp.bounds s i=.ok (m,n,j)):0≤m∧m≤20∧-1≤n∧n≤20:=by
 cases h1:Sp.number 0 s i with
 | error f=>rw [bounds_1 h1] at h;cases h
 | ok p=>
  obtain⟨m',j'⟩:=p
  have b1:=number_bd0 h1
  cases h2:Sp.isAt s j' 44 with
  | false=>
   rw [bounds_4 h1 h2] at h;split at h
   ·cases h;omega
   ·cases h
  | true=>
   cases h3:upperR m' s (j'+1) with
   | error f=>rw [bounds_2 h1 h2 h3] at h;cases h
   | ok p=>
    obtain⟨n',k'⟩:=p
    have b2:=upperR_bd h3
    rw [bounds_3 h1 h2 h3] at h;split at h
    ·cases h;omega
    ·cases h
theorem NodesAt.turn {w:World} {S:Nat→Prop} {p q:Nat} {t:Tr} {l:Value} {m n:Int} (hm:t.lab.min=-1) (h0:0≤m) (h:TnAt w p (tnTurns (min (psz t * tTimes m n) 61) l m n)) (ho:w.ownsRow 0 67 1 l 1 [ptr q]) (hl:∀ g,l.ownBlock=some g→S g) (hS:S p) (hc:NodesAt w S [q] [t]) :
  NodesAt w S [p] [⟨{ t.lab with min:=m,max:=n },t.kids⟩]:=by
 have hz:psz ⟨{ t.lab with min:=m,max:=n },t.kids⟩=min (psz t * tTimes m n) 61:=psz_turns (by omega) h0
 obtain⟨a,ks⟩:=t
 rw [NodesAt_cons] at hc ⊢
 obtain⟨⟨q',l',qs,h1,h2,h3,h4,h5,h6⟩,_⟩:=hc
 have e:q'=q:=by
  rcases h1 with h1|h1
  ·exact h1.2
  ·have h1':=h1.1;simp only at hm;omega
 subst e
 refine⟨⟨q',l',qs,Or.inr ⟨h0,hS,l,?_,ho,hl⟩,h2,?_,h4,h5,h6⟩,NodesAt_nil _ _⟩
 ·rw [hz];exact h
 ·have:psz (bareOf ⟨{ a with min:=m,max:=n },ks⟩)=psz (bareOf ⟨a,ks⟩):=by
   unfold psz bareOf Sp.size Sp.sz1 Sp.szB;simp
  rw [this];exact h3
theorem part_1 {sub:Sp.At→Sp.Res (Tr×Sp.At)} {s:ByteArray} {d:Nat} {x:Sp.At} {f:Sp.Fault} (h:Sp.atom sub s d x=.error f):Sp.part sub s d x=.error f:=by unfold Sp.part;rw [h]
theorem part_2 {sub:Sp.At→Sp.Res (Tr×Sp.At)} {s:ByteArray} {d:Nat} {x y:Sp.At} {t:Tr} {f:Sp.Fault} (h:Sp.atom sub s d x=.ok (t,y)) (h2:Sp.count s y.i=.error f):Sp.part sub s d x=.error f:=by unfold Sp.part;rw [h];simp only [h2]
theorem part_3 {sub:Sp.At→Sp.Res (Tr×Sp.At)} {s:ByteArray} {d:Nat} {x y:Sp.At} {t:Tr} {m n:Int} {j:Nat} (h:Sp.atom sub s d x=.ok (t,y)) (h2:Sp.count s y.i=.ok (m,n,j)):Sp.part sub s d x=.ok (⟨{ t.lab with min:=m,max:=n },t.kids⟩,⟨j,y.t⟩):=by unfold Sp.part;rw [h];simp only [h2]
theorem count_1 {s:ByteArray} {i:Nat} (h:Sp.isAt s i 42=true):Sp.count s i=.ok (0,-1,i+1):=by unfold Sp.count;rw [if_pos h]
theorem count_2 {s:ByteArray} {i:Nat} (h1:Sp.isAt s i 42=false) (h:Sp.isAt s i 43=true):Sp.count s i=.ok (1,-1,i+1):=by unfold Sp.count;rw [if_neg (by rw [h1];simp),if_pos h]
theorem count_3 {s:ByteArray} {i:Nat} (h1:Sp.isAt s i 42=false) (h2:Sp.isAt s i 43=false) (h:Sp.isAt s i 63=true):Sp.count s i=.ok (0,1,i+1):=by unfold Sp.count;rw [if_neg (by rw [h1];simp),if_neg (by rw [h2];simp),if_pos h]
theorem count_4 {s:ByteArray} {i:Nat} (h1:Sp.isAt s i 42=false) (h2:Sp.isAt s i 43=false) (h3:Sp.isAt s i 63=false) (h:Sp.isAt s i 123=true):Sp.count s i=Sp.bounds s (i+1):=by unfold Sp.count;rw [if_neg (by rw [h1];simp),if_neg (by rw [h2];simp),if_neg (by rw [h3];simp),if_pos h]
theorem count_5 {s:ByteArray} {i:Nat} (h1:Sp.isAt s i 42=false) (h2:Sp.isAt s i 43=false) (h3:Sp.isAt s i 63=false) (h:Sp.isAt s i 123=false):Sp.count s i=.ok (-1,0,i):=by unfold Sp.count;rw [if_neg (by rw [h1];simp),if_neg (by rw [h2];simp),if_neg (by rw [h3];simp),if_neg (by rw [h];simp)]
set_option maxHeartbeats 1000000 in
theorem pPart_no (r:Nat) (s:ByteArray) (i0:Nat) (e0 a0:Int) (d:Nat) (t:Int) (w:World) (h:PdAt w r s ⟨i0,e0,a0,d,t⟩) (hi:i0≤s.size) (hs:s.size≤200) (hd:d≤8) (ht0:0≤t) (ht9:t≤9) (k:Nat) (hsub:d < 8→PChoiceC k) (hk:(d:Int)=8 - (k:Int)) (e1 a1:Int) (hat:Sp.atom (Sp.choice s k) s d ⟨i0,t⟩=.error (e1,a1)) :
  Calls Tryz.prog 104 #[.pointer (some ⟨r,0,none⟩)] w (PNodeOut r s ⟨i0,e0,a0,d,t⟩ w (Sp.part (Sp.choice s k) s d ⟨i0,t⟩)):=by
 have hr:=lt_of_heap h
 have hh:Hid (PdAt w r s ⟨i0,e0,a0,d,t⟩):=h
 have HK:Hid ((d:Int)=8 - (k:Int)):=hk
 have HSUB:Hid (d < 8→PChoiceC k):=hsub
 clear h hk hsub
 have HAT:Hid (Sp.atom (Sp.choice s k) s d ⟨i0,t⟩=.error (e1,a1)):=hat
 clear hat
 go_enter Tryz.func104,Tryz.ntmps104
 go_wp2_with fail
 refine (pAtom_any r s i0 e0 a0 d t _ (by exact hh.out) hi hs hd ht0 ht9 k HSUB.out HK.out).mono ?_
 rw [HAT.out]
 rintro e w1 ⟨hu1,i',t',rfl,hf1⟩
 go_wp2_with fail
 go_ret2
 exact PNodeOut.mk_error _ _ i' t' (part_1 HAT.out) hu1 rfl hf1
set_option maxHeartbeats 1000000 in
theorem pPart_star (r:Nat) (s:ByteArray) (i0:Nat) (e0 a0:Int) (d:Nat) (t:Int) (w:World) (h:PdAt w r s ⟨i0,e0,a0,d,t⟩) (hi:i0≤s.size) (hs:s.size≤200) (hd:d≤8) (ht0:0≤t) (ht9:t≤9) (k:Nat) (hsub:d < 8→PChoiceC k) (hk:(d:Int)=8 - (k:Int)) (tr:Tr) (y:Sp.At) (hat:Sp.atom (Sp.choice s k) s d ⟨i0,t⟩=.ok (tr,y)) (b1:Sp.isAt s y.i 42=true) :
  Calls Tryz.prog 104 #[.pointer (some ⟨r,0,none⟩)] w (PNodeOut r s ⟨i0,e0,a0,d,t⟩ w (Sp.part (Sp.choice s k) s d ⟨i0,t⟩)):=by
 have hr:=lt_of_heap h
 have hh:Hid (PdAt w r s ⟨i0,e0,a0,d,t⟩):=h
 have HK:Hid ((d:Int)=8 - (k:Int)):=hk
 have HSUB:Hid (d < 8→PChoiceC k):=hsub
 clear h hk hsub
 have B1:Hid (Sp.isAt s y.i 42=true):=b1
 clear b1
 obtain⟨hy1,hy2,hy3,hy4,hmin,hmax⟩:=Sp.atom_good (Sp.choice_good s k) hat ht0 ht9
 have HAT:Hid (Sp.atom (Sp.choice s k) s d ⟨i0,t⟩=.ok (tr,y)):=hat
 have HMN:Hid (tr.lab.min=-1∧tr.lab.max=0):=⟨hmin,hmax⟩
 clear hat hmin hmax
 go_enter Tryz.func104,Tryz.ntmps104
 go_wp2_with fail
 refine (pAtom_any r s i0 e0 a0 d t _ (by exact hh.out) hi hs hd ht0 ht9 k HSUB.out HK.out).mono ?_
 rw [HAT.out]
 rintro e w1 ⟨hu1,q,rfl,hn1,hf1⟩
 have HU1:Hid (Upd [r] w w1):=hu1
 have HN1:Hid (NodesAt w1 (fun k=>w.heap.size≤k) [q] [tr]):=hn1
 have HF1:Hid (PdAt w1 r s ⟨y.i,e0,a0,d,y.t⟩):=hf1
 clear hu1 hn1 hf1
 unfold ptr
 go_wp2_with fail
 refine (pTake_yes r s ⟨y.i,e0,a0,d,y.t⟩ _ _ (by exact HF1.out) hs B1.out).mono ?_
 rintro e w2 ⟨rfl,hu2,hf2⟩
 have HU2:Hid (Upd [r] w w2):=HU1.out.trans hu2
 have HN2:Hid (NodesAt w2 (fun k=>w.heap.size≤k) [q] [tr]):=HN1.out.upd hu2 (fun k hk=>by simp at hk;omega)
 have HF2:Hid (PdAt w2 r s ⟨y.i+1,e0,a0,d,y.t⟩):=hf2
 clear hu2 hf2 HU1 HN1 HF1
 have hsz:=nodePsz HN2.out
 have hws:=HU2.out.size
 go_wp2_with fail
 refine (tTurns_any q (psz tr) 0 (-1) _ (by exact hsz) (psz_nn tr) (psz_le tr) (by omega) (by omega) (by omega) (by omega)).mono ?_
 rintro e w3 ⟨p,l,rfl,hp,hu3,ht3,ho3,hl3⟩
 go_wp2_with fail
 go_ret2
 exact PNodeOut.mk_ok _ _ p (part_3 HAT.out (count_1 B1.out)) (HU2.out.shrink hu3 (by simp)) rfl (NodesAt.turn HMN.out.1 (by omega) ht3 ho3 (fun g hg=>by have:=hl3 g hg;omega) (by omega) (HN2.out.upd hu3 (by simp))) (HF2.out.upd hu3 (by simp))
set_option maxHeartbeats 1000000 in
theorem pPart_plus (r:Nat) (s:ByteArray) (i0:Nat) (e0 a0:Int) (d:Nat) (t:Int) (w:World) (h:PdAt w r s ⟨i0,e0,a0,d,t⟩) (hi:i0≤s.size) (hs:s.size≤200) (hd:d≤8) (ht0:0≤t) (ht9:t≤9) (k:Nat) (hsub:d < 8→PChoiceC k) (hk:(d:Int)=8 - (k:Int)) (tr:Tr) (y:Sp.At) (hat:Sp.atom (Sp.choice s k) s d ⟨i0,t⟩=.ok (tr,y)) (b1:Sp.isAt s y.i 42=false) (b2:Sp.isAt s y.i 43=true) :
  Calls Tryz.prog 104 #[.pointer (some ⟨r,0,none⟩)] w (PNodeOut r s ⟨i0,e0,a0,d,t⟩ w (Sp.part (Sp.choice s k) s d ⟨i0,t⟩)):=by
 have hr:=lt_of_heap h
 have hh:Hid (PdAt w r s ⟨i0,e0,a0,d,t⟩):=h
 have HK:Hid ((d:Int)=8 - (k:Int)):=hk
 have HSUB:Hid (d < 8→PChoiceC k):=hsub
 clear h hk hsub
 have B1:Hid (Sp.isAt s y.i 42=false):=b1
 clear b1
 have B2:Hid (Sp.isAt s y.i 43=true):=b2
 clear b2
 obtain⟨hy1,hy2,hy3,hy4,hmin,hmax⟩:=Sp.atom_good (Sp.choice_good s k) hat ht0 ht9
 have HAT:Hid (Sp.atom (Sp.choice s k) s d ⟨i0,t⟩=.ok (tr,y)):=hat
 have HMN:Hid (tr.lab.min=-1∧tr.lab.max=0):=⟨hmin,hmax⟩
 clear hat hmin hmax
 go_enter Tryz.func104,Tryz.ntmps104
 go_wp2_with fail
 refine (pAtom_any r s i0 e0 a0 d t _ (by exact hh.out) hi hs hd ht0 ht9 k HSUB.out HK.out).mono ?_
 rw [HAT.out]
 rintro e w1 ⟨hu1,q,rfl,hn1,hf1⟩
 have HU1:Hid (Upd [r] w w1):=hu1
 have HN1:Hid (NodesAt w1 (fun k=>w.heap.size≤k) [q] [tr]):=hn1
 have HF1:Hid (PdAt w1 r s ⟨y.i,e0,a0,d,y.t⟩):=hf1
 clear hu1 hn1 hf1
 unfold ptr
 go_wp2_with fail
 refine (pTake_no r s ⟨y.i,e0,a0,d,y.t⟩ _ _ (by exact HF1.out) (by exact hy2) hs B1.out).mono ?_
 rintro e w2 ⟨rfl,hu2,hf2⟩
 have HU2:Hid (Upd [r] w w2):=HU1.out.trans hu2
 have HN2:Hid (NodesAt w2 (fun k=>w.heap.size≤k) [q] [tr]):=HN1.out.upd hu2 (fun k hk=>by simp at hk;omega)
 have HF2:Hid (PdAt w2 r s ⟨y.i,e0,a0,d,y.t⟩):=hf2
 clear hu2 hf2 HU1 HN1 HF1
 go_wp2_with fail
 refine (pTake_yes r s ⟨y.i,e0,a0,d,y.t⟩ _ _ (by exact HF2.out) hs B2.out).mono ?_
 rintro e w3 ⟨rfl,hu3,hf3⟩
 have HU3:Hid (Upd [r] w w3):=HU2.out.trans hu3
 have HN3:Hid (NodesAt w3 (fun k=>w.heap.size≤k) [q] [tr]):=HN2.out.upd hu3 (fun k hk=>by simp at hk;omega)
 have HF3:Hid (PdAt w3 r s ⟨y.i+1,e0,a0,d,y.t⟩):=hf3
 clear hu3 hf3 HU2 HN2 HF2
 have hsz:=nodePsz HN3.out
 have hws:=HU3.out.size
 go_wp2_with fail
 refine (tTurns_any q (psz tr) 1 (-1) _ (by exact hsz) (psz_nn tr) (psz_le tr) (by omega) (by omega) (by omega) (by omega)).mono ?_
 rintro e w4 ⟨p,l,rfl,hp,hu4,ht4,ho4,hl4⟩
 go_wp2_with fail
 go_ret2
 exact PNodeOut.mk_ok _ _ p (part_3 HAT.out (count_2 B1.out B2.out)) (HU3.out.shrink hu4 (by simp)) rfl (NodesAt.turn HMN.out.1 (by omega) ht4 ho4 (fun g hg=>by have:=hl4 g hg;omega) (by omega) (HN3.out.upd hu4 (by simp))) (HF3.out.upd hu4 (by simp))
set_option maxHeartbeats 1000000 in
theorem pPart_opt (r:Nat) (s:ByteArray) (i0:Nat) (e0 a0:Int) (d:Nat) (t:Int) (w:World) (h:PdAt w r s ⟨i0,e0,a0,d,t⟩) (hi:i0≤s.size) (hs:s.size≤200) (hd:d≤8) (ht0:0≤t) (ht9:t≤9) (k:Nat) (hsub:d < 8→PChoiceC k) (hk:(d:Int)=8 - (k:Int)) (tr:Tr) (y:Sp.At) (hat:Sp.atom (Sp.choice s k) s d ⟨i0,t⟩=.ok (tr,y)) (b1:Sp.isAt s y.i 42=false) (b2:Sp.isAt s y.i 43=false) (b3:Sp.isAt s y.i 63=true) :
  Calls Tryz.prog 104 #[.pointer (some ⟨r,0,none⟩)] w (PNodeOut r s ⟨i0,e0,a0,d,t⟩ w (Sp.part (Sp.choice s k) s d ⟨i0,t⟩)):=by
 have hr:=lt_of_heap h
 have hh:Hid (PdAt w r s ⟨i0,e0,a0,d,t⟩):=h
 have HK:Hid ((d:Int)=8 - (k:Int)):=hk
 have HSUB:Hid (d < 8→PChoiceC k):=hsub
 clear h hk hsub
 have B1:Hid (Sp.isAt s y.i 42=false):=b1
 clear b1
 have B2:Hid (Sp.isAt s y.i 43=false):=b2
 clear b2
 have B3:Hid (Sp.isAt s y.i 63=true):=b3
 clear b3
 obtain⟨hy1,hy2,hy3,hy4,hmin,hmax⟩:=Sp.atom_good (Sp.choice_good s k) hat ht0 ht9
 have HAT:Hid (Sp.atom (Sp.choice s k) s d ⟨i0,t⟩=.ok (tr,y)):=hat
 have HMN:Hid (tr.lab.min=-1∧tr.lab.max=0):=⟨hmin,hmax⟩
 clear hat hmin hmax
 go_enter Tryz.func104,Tryz.ntmps104
 go_wp2_with fail
 refine (pAtom_any r s i0 e0 a0 d t _ (by exact hh.out) hi hs hd ht0 ht9 k HSUB.out HK.out).mono ?_
 rw [HAT.out]
 rintro e w1 ⟨hu1,q,rfl,hn1,hf1⟩
 have HU1:Hid (Upd [r] w w1):=hu1
 have HN1:Hid (NodesAt w1 (fun k=>w.heap.size≤k) [q] [tr]):=hn1
 have HF1:Hid (PdAt w1 r s ⟨y.i,e0,a0,d,y.t⟩):=hf1
 clear hu1 hn1 hf1
 unfold ptr
 go_wp2_with fail
 refine (pTake_no r s ⟨y.i,e0,a0,d,y.t⟩ _ _ (by exact HF1.out) (by exact hy2) hs B1.out).mono ?_
 rintro e w2 ⟨rfl,hu2,hf2⟩
 have HU2:Hid (Upd [r] w w2):=HU1.out.trans hu2
 have HN2:Hid (NodesAt w2 (fun k=>w.heap.size≤k) [q] [tr]):=HN1.out.upd hu2 (fun k hk=>by simp at hk;omega)
 have HF2:Hid (PdAt w2 r s ⟨y.i,e0,a0,d,y.t⟩):=hf2
 clear hu2 hf2 HU1 HN1 HF1
 go_wp2_with fail
 refine (pTake_no r s ⟨y.i,e0,a0,d,y.t⟩ _ _ (by exact HF2.out) (by exact hy2) hs B2.out).mono ?_
 rintro e w3 ⟨rfl,hu3,hf3⟩
 have HU3:Hid (Upd [r] w w3):=HU2.out.trans hu3
 have HN3:Hid (NodesAt w3 (fun k=>w.heap.size≤k) [q] [tr]):=HN2.out.upd hu3 (fun k hk=>by simp at hk;omega)
 have HF3:Hid (PdAt w3 r s ⟨y.i,e0,a0,d,y.t⟩):=hf3
 clear hu3 hf3 HU2 HN2 HF2
 go_wp2_with fail
 refine (pTake_yes r s ⟨y.i,e0,a0,d,y.t⟩ _ _ (by exact HF3.out) hs B3.out).mono ?_
 rintro e w4 ⟨rfl,hu4,hf4⟩
 have HU4:Hid (Upd [r] w w4):=HU3.out.trans hu4
 have HN4:Hid (NodesAt w4 (fun k=>w.heap.size≤k) [q] [tr]):=HN3.out.upd hu4 (fun k hk=>by simp at hk;omega)
 have HF4:Hid (PdAt w4 r s ⟨y.i+1,e0,a0,d,y.t⟩):=hf4
 clear hu4 hf4 HU3 HN3 HF3
 have hsz:=nodePsz HN4.out
 have hws:=HU4.out.size
 go_wp2_with fail
 refine (tTurns_any q (psz tr) 0 1 _ (by exact hsz) (psz_nn tr) (psz_le tr) (by omega) (by omega) (by omega) (by omega)).mono ?_
 rintro e w5 ⟨p,l,rfl,hp,hu5,ht5,ho5,hl5⟩
 go_wp2_with fail
 go_ret2
 exact PNodeOut.mk_ok _ _ p (part_3 HAT.out (count_3 B1.out B2.out B3.out)) (HU4.out.shrink hu5 (by simp)) rfl (NodesAt.turn HMN.out.1 (by omega) ht5 ho5 (fun g hg=>by have:=hl5 g hg;omega) (by omega) (HN4.out.upd hu5 (by simp))) (HF4.out.upd hu5 (by simp))
set_option maxHeartbeats 1000000 in
theorem pPart_brace (r:Nat) (s:ByteArray) (i0:Nat) (e0 a0:Int) (d:Nat) (t:Int) (w:World) (h:PdAt w r s ⟨i0,e0,a0,d,t⟩) (hi:i0≤s.size) (hs:s.size≤200) (hd:d≤8) (ht0:0≤t) (ht9:t≤9) (k:Nat) (hsub:d < 8→PChoiceC k) (hk:(d:Int)=8 - (k:Int)) (tr:Tr) (y:Sp.At) (hat:Sp.atom (Sp.choice s k) s d ⟨i0,t⟩=.ok (tr,y)) (b1:Sp.isAt s y.i 42=false) (b2:Sp.isAt s y.i 43=false) (b3:Sp.isAt s y.i 63=false) (b4:Sp.isAt s y.i 123=true) :
  Calls Tryz.prog 104 #[.pointer (some ⟨r,0,none⟩)] w (PNodeOut r s ⟨i0,e0,a0,d,t⟩ w (Sp.part (Sp.choice s k) s d ⟨i0,t⟩)):=by
 have hr:=lt_of_heap h
 have hh:Hid (PdAt w r s ⟨i0,e0,a0,d,t⟩):=h
 have HK:Hid ((d:Int)=8 - (k:Int)):=hk
 have HSUB:Hid (d < 8→PChoiceC k):=hsub
 clear h hk hsub
 have hlt:=Sp.isAt_lt b4
 have B1:Hid (Sp.isAt s y.i 42=false):=b1
 have hlt0:=True.intro
 clear b1 hlt0
 have B2:Hid (Sp.isAt s y.i 43=false):=b2
 have hlt1:=True.intro
 clear b2 hlt1
 have B3:Hid (Sp.isAt s y.i 63=false):=b3
 have hlt2:=True.intro
 clear b3 hlt2
 have B4:Hid (Sp.isAt s y.i 123=true):=b4
 have hlt3:=True.intro
 clear b4 hlt3
 obtain⟨hy1,hy2,hy3,hy4,hmin,hmax⟩:=Sp.atom_good (Sp.choice_good s k) hat ht0 ht9
 have HAT:Hid (Sp.atom (Sp.choice s k) s d ⟨i0,t⟩=.ok (tr,y)):=hat
 have HMN:Hid (tr.lab.min=-1∧tr.lab.max=0):=⟨hmin,hmax⟩
 clear hat hmin hmax
 go_enter Tryz.func104,Tryz.ntmps104
 go_wp2_with fail
 refine (pAtom_any r s i0 e0 a0 d t _ (by exact hh.out) hi hs hd ht0 ht9 k HSUB.out HK.out).mono ?_
 rw [HAT.out]
 rintro e w1 ⟨hu1,q,rfl,hn1,hf1⟩
 have HU1:Hid (Upd [r] w w1):=hu1
 have HN1:Hid (NodesAt w1 (fun k=>w.heap.size≤k) [q] [tr]):=hn1
 have HF1:Hid (PdAt w1 r s ⟨y.i,e0,a0,d,y.t⟩):=hf1
 clear hu1 hn1 hf1
 unfold ptr
 go_wp2_with fail
 refine (pTake_no r s ⟨y.i,e0,a0,d,y.t⟩ _ _ (by exact HF1.out) (by exact hy2) hs B1.out).mono ?_
 rintro e w2 ⟨rfl,hu2,hf2⟩
 have HU2:Hid (Upd [r] w w2):=HU1.out.trans hu2
 have HN2:Hid (NodesAt w2 (fun k=>w.heap.size≤k) [q] [tr]):=HN1.out.upd hu2 (fun k hk=>by simp at hk;omega)
 have HF2:Hid (PdAt w2 r s ⟨y.i,e0,a0,d,y.t⟩):=hf2
 clear hu2 hf2 HU1 HN1 HF1
 go_wp2_with fail
 refine (pTake_no r s ⟨y.i,e0,a0,d,y.t⟩ _ _ (by exact HF2.out) (by exact hy2) hs B2.out).mono ?_
 rintro e w3 ⟨rfl,hu3,hf3⟩
 have HU3:Hid (Upd [r] w w3):=HU2.out.trans hu3
 have HN3:Hid (NodesAt w3 (fun k=>w.heap.size≤k) [q] [tr]):=HN2.out.upd hu3 (fun k hk=>by simp at hk;omega)
 have HF3:Hid (PdAt w3 r s ⟨y.i,e0,a0,d,y.t⟩):=hf3
 clear hu3 hf3 HU2 HN2 HF2
 go_wp2_with fail
 refine (pTake_no r s ⟨y.i,e0,a0,d,y.t⟩ _ _ (by exact HF3.out) (by exact hy2) hs B3.out).mono ?_
 rintro e w4 ⟨rfl,hu4,hf4⟩
 have HU4:Hid (Upd [r] w w4):=HU3.out.trans hu4
 have HN4:Hid (NodesAt w4 (fun k=>w.heap.size≤k) [q] [tr]):=HN3.out.upd hu4 (fun k hk=>by simp at hk;omega)
 have HF4:Hid (PdAt w4 r s ⟨y.i,e0,a0,d,y.t⟩):=hf4
 clear hu4 hf4 HU3 HN3 HF3
 go_wp2_with fail
 refine (pTake_yes r s ⟨y.i,e0,a0,d,y.t⟩ _ _ (by exact HF4.out) hs B4.out).mono ?_
 rintro e w5 ⟨rfl,hu5,hf5⟩
 have HU5:Hid (Upd [r] w w5):=HU4.out.trans hu5
 have HN5:Hid (NodesAt w5 (fun k=>w.heap.size≤k) [q] [tr]):=HN4.out.upd hu5 (fun k hk=>by simp at hk;omega)
 have HF5:Hid (PdAt w5 r s ⟨y.i+1,e0,a0,d,y.t⟩):=hf5
 clear hu5 hf5 HU4 HN4 HF4
 go_wp2_with fail
 refine (pBounds_any r s ⟨y.i+1,e0,a0,d,y.t⟩ _ (by exact HF5.out) (by exact hlt) hs).mono ?_
 rintro e w6 ⟨hu6,hq6⟩
 have HU6:Hid (Upd [r] w w6):=HU5.out.trans hu6
 have HN6:Hid (NodesAt w6 (fun k=>w.heap.size≤k) [q] [tr]):=HN5.out.upd hu6 (fun k hk=>by simp at hk;omega)
 clear hu6 HU5 HN5 HF5
 have HC:Hid (Sp.count s y.i=Sp.bounds s (y.i+1)):=count_4 B1.out B2.out B3.out B4.out
 revert hq6
 cases hb:Sp.bounds s (y.i+1) with
 | error p=>
  obtain⟨e1,a1⟩:=p
  rintro ⟨m,n,i',rfl,hf6⟩
  have HR:Hid (Sp.part (Sp.choice s k) s d ⟨i0,t⟩=.error (e1,a1)):=part_2 HAT.out (HC.out.trans hb)
  clear hb
  go_wp2_with fail
  go_ret2
  exact PNodeOut.mk_error _ _ i' y.t HR.out HU6.out rfl hf6
 | ok p=>
  obtain⟨m,n,j⟩:=p
  rintro ⟨rfl,hf6⟩
  have HR:Hid (Sp.part (Sp.choice s k) s d ⟨i0,t⟩=.ok (⟨{ tr.lab with min:=m,max:=n },tr.kids⟩,⟨j,y.t⟩)):=part_3 HAT.out (HC.out.trans hb)
  obtain⟨m0,m1,n0,n1⟩:=bounds_bd0 hb
  have HF6:Hid (PdAt w6 r s ⟨j,e0,a0,d,y.t⟩):=hf6
  clear hb hf6
  have hsz:=nodePsz HN6.out
  have hws:=HU6.out.size
  go_wp2_with fail
  refine (tTurns_any q (psz tr) m n _ (by exact hsz) (psz_nn tr) (psz_le tr) (by omega) (by omega) (by omega) (by omega)).mono ?_
  rintro e w7 ⟨p,l,rfl,hp,hu7,ht7,ho7,hl7⟩
  go_wp2_with fail
  go_ret2
  exact PNodeOut.mk_ok _ _ p HR.out (HU6.out.shrink hu7 (by simp)) rfl (NodesAt.turn HMN.out.1 (by omega) ht7 ho7 (fun g hg=>by have:=hl7 g hg;omega) (by omega) (HN6.out.upd hu7 (by simp))) (HF6.out.upd hu7 (by simp))
set_option maxHeartbeats 1000000 in
theorem pPart_bare (r:Nat) (s:ByteArray) (i0:Nat) (e0 a0:Int) (d:Nat) (t:Int) (w:World) (h:PdAt w r s ⟨i0,e0,a0,d,t⟩) (hi:i0≤s.size) (hs:s.size≤200) (hd:d≤8) (ht0:0≤t) (ht9:t≤9) (k:Nat) (hsub:d < 8→PChoiceC k) (hk:(d:Int)=8 - (k:Int)) (tr:Tr) (y:Sp.At) (hat:Sp.atom (Sp.choice s k) s d ⟨i0,t⟩=.ok (tr,y)) (b1:Sp.isAt s y.i 42=false) (b2:Sp.isAt s y.i 43=false) (b3:Sp.isAt s y.i 63=false) (b4:Sp.isAt s y.i 123=false) :
  Calls Tryz.prog 104 #[.pointer (some ⟨r,0,none⟩)] w (PNodeOut r s ⟨i0,e0,a0,d,t⟩ w (Sp.part (Sp.choice s k) s d ⟨i0,t⟩)):=by
 have hr:=lt_of_heap h
 have hh:Hid (PdAt w r s ⟨i0,e0,a0,d,t⟩):=h
 have HK:Hid ((d:Int)=8 - (k:Int)):=hk
 have HSUB:Hid (d < 8→PChoiceC k):=hsub
 clear h hk hsub
 have B1:Hid (Sp.isAt s y.i 42=false):=b1
 clear b1
 have B2:Hid (Sp.isAt s y.i 43=false):=b2
 clear b2
 have B3:Hid (Sp.isAt s y.i 63=false):=b3
 clear b3
 have B4:Hid (Sp.isAt s y.i 123=false):=b4
 clear b4
 obtain⟨hy1,hy2,hy3,hy4,hmin,hmax⟩:=Sp.atom_good (Sp.choice_good s k) hat ht0 ht9
 have HAT:Hid (Sp.atom (Sp.choice s k) s d ⟨i0,t⟩=.ok (tr,y)):=hat
 have HMN:Hid (tr.lab.min=-1∧tr.lab.max=0):=⟨hmin,hmax⟩
 clear hat hmin hmax
 go_enter Tryz.func104,Tryz.ntmps104
 go_wp2_with fail
 refine (pAtom_any r s i0 e0 a0 d t _ (by exact hh.out) hi hs hd ht0 ht9 k HSUB.out HK.out).mono ?_
 rw [HAT.out]
 rintro e w1 ⟨hu1,q,rfl,hn1,hf1⟩
 have HU1:Hid (Upd [r] w w1):=hu1
 have HN1:Hid (NodesAt w1 (fun k=>w.heap.size≤k) [q] [tr]):=hn1
 have HF1:Hid (PdAt w1 r s ⟨y.i,e0,a0,d,y.t⟩):=hf1
 clear hu1 hn1 hf1
 unfold ptr
 go_wp2_with fail
 refine (pTake_no r s ⟨y.i,e0,a0,d,y.t⟩ _ _ (by exact HF1.out) (by exact hy2) hs B1.out).mono ?_
 rintro e w2 ⟨rfl,hu2,hf2⟩
 have HU2:Hid (Upd [r] w w2):=HU1.out.trans hu2
 have HN2:Hid (NodesAt w2 (fun k=>w.heap.size≤k) [q] [tr]):=HN1.out.upd hu2 (fun k hk=>by simp at hk;omega)
 have HF2:Hid (PdAt w2 r s ⟨y.i,e0,a0,d,y.t⟩):=hf2
 clear hu2 hf2 HU1 HN1 HF1
 go_wp2_with fail
 refine (pTake_no r s ⟨y.i,e0,a0,d,y.t⟩ _ _ (by exact HF2.out) (by exact hy2) hs B2.out).mono ?_
 rintro e w3 ⟨rfl,hu3,hf3⟩
 have HU3:Hid (Upd [r] w w3):=HU2.out.trans hu3
 have HN3:Hid (NodesAt w3 (fun k=>w.heap.size≤k) [q] [tr]):=HN2.out.upd hu3 (fun k hk=>by simp at hk;omega)
 have HF3:Hid (PdAt w3 r s ⟨y.i,e0,a0,d,y.t⟩):=hf3
 clear hu3 hf3 HU2 HN2 HF2
 go_wp2_with fail
 refine (pTake_no r s ⟨y.i,e0,a0,d,y.t⟩ _ _ (by exact HF3.out) (by exact hy2) hs B3.out).mono ?_
 rintro e w4 ⟨rfl,hu4,hf4⟩
 have HU4:Hid (Upd [r] w w4):=HU3.out.trans hu4
 have HN4:Hid (NodesAt w4 (fun k=>w.heap.size≤k) [q] [tr]):=HN3.out.upd hu4 (fun k hk=>by simp at hk;omega)
 have HF4:Hid (PdAt w4 r s ⟨y.i,e0,a0,d,y.t⟩):=hf4
 clear hu4 hf4 HU3 HN3 HF3
 go_wp2_with fail
 refine (pTake_no r s ⟨y.i,e0,a0,d,y.t⟩ _ _ (by exact HF4.out) (by exact hy2) hs B4.out).mono ?_
 rintro e w5 ⟨rfl,hu5,hf5⟩
 have HU5:Hid (Upd [r] w w5):=HU4.out.trans hu5
 have HN5:Hid (NodesAt w5 (fun k=>w.heap.size≤k) [q] [tr]):=HN4.out.upd hu5 (fun k hk=>by simp at hk;omega)
 have HF5:Hid (PdAt w5 r s ⟨y.i,e0,a0,d,y.t⟩):=hf5
 clear hu5 hf5 HU4 HN4 HF4
 have HT:Hid (Sp.part (Sp.choice s k) s d ⟨i0,t⟩=.ok (tr,⟨y.i,y.t⟩)):=by
  show _=_;rw [part_3 HAT.out (count_5 B1.out B2.out B3.out B4.out)]
  have e:(⟨{ tr.lab with min:=-1,max:=0 },tr.kids⟩:Tr)=tr:=by
   have h1:=HMN.out.1
   have h2:=HMN.out.2
   obtain⟨⟨_,_,_,_,_,_,mn,mx⟩,ks⟩:=tr
   simp only at h1 h2;subst h1 h2;rfl
  rw [e]
 go_wp2_with fail
 go_ret2
 exact PNodeOut.mk_ok _ _ q HT.out HU5.out rfl HN5.out HF5.out
theorem pPart_any (r:Nat) (s:ByteArray) (i0:Nat) (e0 a0:Int) (d:Nat) (t:Int) (w:World) (h:PdAt w r s ⟨i0,e0,a0,d,t⟩) (hi:i0≤s.size) (hs:s.size≤200) (hd:d≤8) (ht0:0≤t) (ht9:t≤9) (k:Nat) (hsub:d < 8→PChoiceC k) (hk:(d:Int)=8 - (k:Int)) :
  Calls Tryz.prog 104 #[.pointer (some ⟨r,0,none⟩)] w (PNodeOut r s ⟨i0,e0,a0,d,t⟩ w (Sp.part (Sp.choice s k) s d ⟨i0,t⟩)):=by
 cases hat:Sp.atom (Sp.choice s k) s d ⟨i0,t⟩ with
 | error p=>obtain⟨e1,a1⟩:=p;exact pPart_no r s i0 e0 a0 d t w h hi hs hd ht0 ht9 k hsub hk e1 a1 hat
 | ok p=>
  obtain⟨tr,y⟩:=p
  cases b1:Sp.isAt s y.i 42 with
  | true=>exact pPart_star r s i0 e0 a0 d t w h hi hs hd ht0 ht9 k hsub hk tr y hat b1
  | false=>cases b2:Sp.isAt s y.i 43 with
   | true=>exact pPart_plus r s i0 e0 a0 d t w h hi hs hd ht0 ht9 k hsub hk tr y hat b1 b2
   | false=>cases b3:Sp.isAt s y.i 63 with
    | true=>exact pPart_opt r s i0 e0 a0 d t w h hi hs hd ht0 ht9 k hsub hk tr y hat b1 b2 b3
    | false=>cases b4:Sp.isAt s y.i 123 with
     | true=>exact pPart_brace r s i0 e0 a0 d t w h hi hs hd ht0 ht9 k hsub hk tr y hat b1 b2 b3 b4
     | false=>exact pPart_bare r s i0 e0 a0 d t w h hi hs hd ht0 ht9 k hsub hk tr y hat b1 b2 b3 b4
structure Kds (w:World) (b:Nat) (l:Value) (qs:List Nat) (ts:List Tr):Prop where
 own:w.ownsRow b 67 1 l qs.length (qs.map ptr)
 nodes:NodesAt w (fun k=>b≤k∧l.ownBlock≠some k) qs ts
theorem Kds.empty (w:World) (b:Nat):Kds w b (.slice none 0 0) [] []:=⟨⟨by simp,Or.inl ⟨rfl,rfl⟩⟩,NodesAt_nil _ _⟩
theorem Kds.same {w w':World} {b:Nat} {l:Value} {qs:List Nat} {ts:List Tr} (h:Kds w b l qs ts) (hb:∀ k,b≤k→k < w.heap.size→w'.heap[k]?=w.heap[k]?):Kds w' b l qs ts:=
 ⟨ownsRow_same h.own (fun g hg hl=>hb g (ownBlock_lt h.own hg).2 hl),NodesAt.same _ _ h.nodes (fun k hk hl=>hb k hk.1 hl)⟩
theorem Kds.upd {w w':World} {b:Nat} {l:Value} {qs:List Nat} {ts:List Tr} (h:Kds w b l qs ts) {r:Nat} (u:Upd [r] w w') (hr:r < b):Kds w' b l qs ts:=
 h.same (fun k hk hl=>u.block k hl (by simp;omega))
theorem Kds.length {w:World} {b:Nat} {l:Value} {qs:List Nat} {ts:List Tr} (h:Kds w b l qs ts):qs.length=ts.length:=NodesAt.length _ _ h.nodes
theorem Kds.step {wr w3 w5:World} {b q:Nat} {l v':Value} {qs:List Nat} {ts:List Tr} {t':Tr} {o:Obj} (hk:Kds wr b l qs ts) (hq:NodesAt w3 (fun k=>wr.heap.size≤k) [q] [t']) (hb:b≤wr.heap.size)
  (hu:∀ k,b≤k→k < wr.heap.size→w3.heap[k]?=wr.heap[k]?) (hsz:wr.heap.size≤w3.heap.size) (hown:w5.ownsRow b 67 1 v' (qs.length+1) (qs.map ptr++[ptr q]))
  (hg:(w3.alloc o).grownBy w5 l.ownBlock) (hloc:v'.ownBlock=l.ownBlock∨v'.ownBlock=some (w3.heap.size+1)):Kds w5 b v' (qs++[q]) (ts++[t']):=by
 have hs4:(w3.alloc o).heap.size=w3.heap.size+1:=by simp
 have hl:∀ g,l.ownBlock=some g→g < wr.heap.size:=fun g hg=>(ownBlock_lt hk.own hg).1
 have b5:∀ k,k < w3.heap.size→l.ownBlock≠some k→w5.heap[k]?=w3.heap[k]?:=fun k hk hn=>by
  rw [hg.block k (by omega) (fun e=>hn e.symm)];exact Below.heap_alloc _ _ _ hk
 refine⟨by simpa using hown,?_⟩
 refine NodesAt.append _ _ _ _ ?_ ?_
 ·have h1:NodesAt wr (fun k=>(b≤k∧l.ownBlock≠some k)∧v'.ownBlock≠some k) qs ts:=NodesAt.mono _ _ hk.nodes (fun k hk hl'=>⟨hk,fun e=>by
   rcases hloc with q|q
   ·exact hk.2 (q ▸ e)
   ·rw [q] at e;simp at e;omega⟩)
  have h2:NodesAt w5 (fun k=>(b≤k∧l.ownBlock≠some k)∧v'.ownBlock≠some k) qs ts:=NodesAt.same _ _ h1 (fun k hk hl'=>by
   rw [b5 k (by omega) hk.1.2,hu k hk.1.1 hl'])
  exact NodesAt.mono _ _ h2 (fun k hk _=>⟨hk.1.1,hk.2⟩)
 ·have h1:NodesAt w3 (fun k=>wr.heap.size≤k∧k < w3.heap.size) [q] [t']:=NodesAt.mono _ _ hq (fun k hk hl'=>⟨hk,hl'⟩)
  have h2:NodesAt w5 (fun k=>wr.heap.size≤k∧k < w3.heap.size) [q] [t']:=NodesAt.same _ _ h1 (fun k hk hl'=>by
   rw [b5 k hl' (fun e=>by have:=hl k e;omega)])
  exact NodesAt.mono _ _ h2 (fun k hk _=>⟨by omega,fun e=>by
   rcases hloc with q|q
   ·have:=hl k (q ▸ e);omega
   ·rw [q] at e;simp at e;omega⟩)
theorem NodesAt.many {w:World} {S:Nat→Prop} {p:Nat} {qs:List Nat} {ts:List Tr} {a:Lab} {v:Value} (hm:a.min < 0) (hk:3 < a.kind) (h:TnAt w p (tnOf a (pszs ts) v))
  (ho:w.ownsRow 0 67 1 v qs.length (qs.map ptr)) (hl:∀ g,v.ownBlock=some g→S g) (hS:S p) (hc:NodesAt w S qs ts):NodesAt w S [p] [⟨a,ts⟩]:=by
 rw [NodesAt_cons]
 refine⟨⟨p,v,qs,Or.inl ⟨hm,rfl⟩,hS,?_,ho,hl,hc⟩,NodesAt_nil _ _⟩
 rw [psz_kids (t:=bareOf ⟨a,ts⟩) (by simp [bareOf]) hk];exact h
structure PRowInv (r:Nat) (s:ByteArray) (i0:Nat) (e0 a0:Int) (d:Nat) (t0:Int) (sub:Sp.At→Sp.Res (Tr×Sp.At)) (w:World) (n:Nat) (l:Value) (wr:World):Prop where
 upd:Upd [r] w wr
 st:∃ y ts qs,PdAt wr r s ⟨y.i,e0,a0,d,y.t⟩∧Kds wr w.heap.size l qs ts∧Sp.parts sub s d (s.size+1) [] ⟨i0,t0⟩=Sp.parts sub s d n ts y∧s.size+1≤n+y.i∧y.i≤s.size∧ts.length≤y.i∧0≤y.t∧y.t≤9
theorem over_is {s:ByteArray} {i:Nat} (h:Sp.over s i=true):¬ i < s.size∨(i < s.size∧Sp.isAt s i 124=true)∨(i < s.size∧Sp.isAt s i 124=false∧Sp.isAt s i 41=true):=by
 unfold Sp.over at h
 by_cases hi:i < s.size
 ·right
  simp [show ¬ s.size≤i by omega] at h
  cases h1:Sp.isAt s i 124 with
  | true=>exact Or.inl ⟨hi,rfl⟩
  | false=>rw [h1] at h;simp at h;exact Or.inr ⟨hi,rfl,h⟩
 ·exact Or.inl hi
theorem over_no {s:ByteArray} {i:Nat} (h:Sp.over s i=false):i < s.size∧Sp.isAt s i 124=false∧Sp.isAt s i 41=false:=by
 unfold Sp.over at h;simp at h;exact⟨by omega,h.1.2,h.2⟩
theorem row_end {r:Nat} {s:ByteArray} {i0:Nat} {e0 a0:Int} {d:Int} {t0:Int} {w w2 w3:World} {y:Sp.At} {ts:List Tr} {qs:List Nat} {l v:Value} {a:Lab} {kk:Int} {p:Nat} {k:Ending} {res:Sp.Res (Tr×Sp.At)} (hq:res=.ok (⟨a,ts⟩,y)) (ha:a.min < 0) (hk:3 < a.kind) (hn:tnOf a (pszs ts) v={ kind:=kk,size:=pszs ts,parts:=v,byte:=0,s0:=0,s1:=0,s2:=0,s3:=0,not:=false,num:=0,least:=0,most:=0 })
  (hu:Upd [r] w w2) (hf:PdAt w2 r s ⟨y.i,e0,a0,d,y.t⟩) (hkd:Kds w2 w.heap.size l qs ts) (hp:w2.heap.size≤p) (hu3:Upd [] w2 w3) (ht:TnAt w3 p { kind:=kk,size:=pszs ts,parts:=v,byte:=0,s0:=0,s1:=0,s2:=0,s3:=0,not:=false,num:=0,least:=0,most:=0 }) (hown:w3.ownsRow 0 67 1 v qs.length (qs.map ptr)) (hv:∀ g,v.ownBlock=some g→w2.heap.size≤g) (hke:k=.returned (.tuple #[ptr p,.bool true])):PNodeOut r s ⟨i0,e0,a0,d,t0⟩ w res k w3:=by
 have:=hu.size
 refine PNodeOut.mk_ok _ _ p hq (hu.shrink hu3 (by simp)) hke (NodesAt.many ha hk (by rw [hn];exact ht) hown (fun g hg=>by have:=hv g hg;omega) (by omega) ?_) (hf.upd hu3 (by simp))
 exact NodesAt.upd (NodesAt.mono _ _ hkd.nodes (fun k hk _=>hk.1)) hu3 (by simp)
theorem tnOf_row (z:Int) (v:Value):tnOf rLab z v={ kind:=5,size:=z,parts:=v,byte:=0,s0:=0,s1:=0,s2:=0,s3:=0,not:=false,num:=0,least:=0,most:=0 }:=rfl
theorem tnOf_choice (z:Int) (v:Value):tnOf cLab z v={ kind:=6,size:=z,parts:=v,byte:=0,s0:=0,s1:=0,s2:=0,s3:=0,not:=false,num:=0,least:=0,most:=0 }:=rfl
theorem pRow_is {sub:Sp.At→Sp.Res (Tr×Sp.At)} {s:ByteArray} {d i0 n:Nat} {t0:Int} {ts:List Tr} {y:Sp.At} (h:Sp.parts sub s d (s.size+1) [] ⟨i0,t0⟩=Sp.parts sub s d (n+1) ts y) (ho:Sp.over s y.i=true):Sp.row sub s d ⟨i0,t0⟩=.ok (⟨rLab,ts⟩,y):=by
 unfold Sp.row;rw [h,Sp.parts,ho];rfl
set_option maxHeartbeats 2000000 in
theorem pRow_any (r:Nat) (s:ByteArray) (i0:Nat) (e0 a0:Int) (d:Nat) (t0:Int) (w:World) (h:PdAt w r s ⟨i0,e0,a0,d,t0⟩) (hi0:i0≤s.size) (hs:s.size≤200) (hd:d≤8) (ht0:0≤t0) (ht9:t0≤9) (k:Nat) (hsub:d < 8→PChoiceC k) (hk:(d:Int)=8 - (k:Int)) :
  Calls Tryz.prog 82 #[.pointer (some ⟨r,0,none⟩)] w (PNodeOut r s ⟨i0,e0,a0,d,t0⟩ w (Sp.row (Sp.choice s k) s d ⟨i0,t0⟩)):=by
 have hr:=lt_of_heap h
 have hh:Hid (PdAt w r s ⟨i0,e0,a0,d,t0⟩):=h
 have HK:Hid ((d:Int)=8 - (k:Int)):=hk
 have HSUB:Hid (d < 8→PChoiceC k):=hsub
 obtain⟨it,hi1,hi2,hi3,hi4⟩:=pInfoNode
 have HI:Hid (Tryz.prog.info? 67=some it∧it.zero=some (.pointer none)∧it.size=1∧it.bytes=8):=⟨hi1,hi2,hi3,hi4⟩
 clear h hk hsub hi1 hi2 hi3 hi4
 go_enter Tryz.func82,Tryz.ntmps82
 go_wp2_with fail
 go_loopg [4] (s.size+1) (fun gn l wr=>PRowInv r s i0 e0 a0 d t0 (Sp.choice s k) w gn l wr)
 case atStart=>exact⟨Upd.refl _ _,⟨i0,t0⟩,[],[],hh.out,Kds.empty _ _,rfl,by simp,hi0,by simp,ht0,ht9⟩
 case round=>
  obtain⟨hu,y,ts,qs,hf,hkd,heq,hgn,hyi,hlen,hy0,hy9⟩:=hrel
  clear hh
  obtain⟨fuel,rfl⟩:∃ n,gk=n+1:=⟨gk - 1,by omega⟩
  obtain⟨l,hl⟩:∃ l,l=u4:=⟨u4,rfl⟩
  rw [← hl] at hkd ⊢
  clear hl u4
  have HF:Hid (PdAt wr r s ⟨y.i,e0,a0,d,y.t⟩):=hf
  have HU:Hid (Upd [r] w wr):=hu
  have HD:Hid (Kds wr w.heap.size l qs ts):=hkd
  have HQ:Hid (Sp.parts (Sp.choice s k) s d (s.size+1) [] ⟨i0,t0⟩=Sp.parts (Sp.choice s k) s d (fuel+1) ts y):=heq
  clear hf hu hkd heq
  cases ho:Sp.over s y.i with
  | true=>
   rcases over_is ho with hx|⟨hx,h1⟩|⟨hx,h1,h2⟩
   ·have HR:Hid (Sp.row (Sp.choice s k) s d ⟨i0,t0⟩=.ok (⟨rLab,ts⟩,y)):=pRow_is HQ.out ho
    have HX:Hid (y.i=s.size):=by show _=_;omega
    clear ho
    go_wp2_with fail
    refine (pAtEnd_yes r s ⟨y.i,e0,a0,d,y.t⟩ _ (by exact HF.out) HX.out).mono ?_
    rintro e w1 ⟨rfl,n1,hw1⟩
    rw [hw1]
    clear hw1 w1
    go_wp2_with fail
    refine (tRow_any l qs ts _ _ (by exact own_zero HD.out.own) (by have:=HD.out.length;omega) (by exact HD.out.nodes.same _ _ (fun _ _ _=>rfl))).mono ?_
    rintro e w4 ⟨p,v,rfl,hp,hu3,ht3,ho3,hv3⟩
    go_wp2_with fail
    go_ret2
    exact row_end HR.out (by simp [rLab,Sp.blank]) (by simp [rLab]) (tnOf_row _ _) HU.out HF.out HD.out hp (show Upd [] wr _ from ⟨hu3.os,hu3.tape,hu3.output,hu3.size,hu3.block⟩) ht3 ho3 hv3 rfl
   ·have HR:Hid (Sp.row (Sp.choice s k) s d ⟨i0,t0⟩=.ok (⟨rLab,ts⟩,y)):=pRow_is HQ.out ho
    have H1:Hid (Sp.isAt s y.i 124=true):=h1
    clear h1
    clear ho
    go_wp2_with fail
    refine (pAtEnd_no r s ⟨y.i,e0,a0,d,y.t⟩ _ (by exact HF.out) hx).mono ?_
    rintro e w1 ⟨rfl,n1,hw1⟩
    rw [hw1]
    clear hw1 w1
    go_wp2_with fail
    refine (pNext_is r s ⟨y.i,e0,a0,d,y.t⟩ 124 true _ (by exact HF.out) hyi H1.out).mono ?_
    rintro e w2 ⟨rfl,n2,hw2⟩
    rw [hw2]
    clear hw2 w2
    go_wp2_with fail
    refine (tRow_any l qs ts _ _ (by exact own_zero HD.out.own) (by have:=HD.out.length;omega) (by exact HD.out.nodes.same _ _ (fun _ _ _=>rfl))).mono ?_
    rintro e w4 ⟨p,v,rfl,hp,hu3,ht3,ho3,hv3⟩
    go_wp2_with fail
    go_ret2
    exact row_end HR.out (by simp [rLab,Sp.blank]) (by simp [rLab]) (tnOf_row _ _) HU.out HF.out HD.out hp (show Upd [] wr _ from ⟨hu3.os,hu3.tape,hu3.output,hu3.size,hu3.block⟩) ht3 ho3 hv3 rfl
   ·have HR:Hid (Sp.row (Sp.choice s k) s d ⟨i0,t0⟩=.ok (⟨rLab,ts⟩,y)):=pRow_is HQ.out ho
    have H1:Hid (Sp.isAt s y.i 124=false):=h1
    clear h1
    have H2:Hid (Sp.isAt s y.i 41=true):=h2
    clear h2
    clear ho
    go_wp2_with fail
    refine (pAtEnd_no r s ⟨y.i,e0,a0,d,y.t⟩ _ (by exact HF.out) hx).mono ?_
    rintro e w1 ⟨rfl,n1,hw1⟩
    rw [hw1]
    clear hw1 w1
    go_wp2_with fail
    refine (pNext_is r s ⟨y.i,e0,a0,d,y.t⟩ 124 false _ (by exact HF.out) hyi H1.out).mono ?_
    rintro e w2 ⟨rfl,n2,hw2⟩
    rw [hw2]
    clear hw2 w2
    go_wp2_with fail
    refine (pNext_is r s ⟨y.i,e0,a0,d,y.t⟩ 41 true _ (by exact HF.out) hyi H2.out).mono ?_
    rintro e w3 ⟨rfl,n3,hw3⟩
    rw [hw3]
    clear hw3 w3
    go_wp2_with fail
    refine (tRow_any l qs ts _ _ (by exact own_zero HD.out.own) (by have:=HD.out.length;omega) (by exact HD.out.nodes.same _ _ (fun _ _ _=>rfl))).mono ?_
    rintro e w4 ⟨p,v,rfl,hp,hu3,ht3,ho3,hv3⟩
    go_wp2_with fail
    go_ret2
    exact row_end HR.out (by simp [rLab,Sp.blank]) (by simp [rLab]) (tnOf_row _ _) HU.out HF.out HD.out hp (show Upd [] wr _ from ⟨hu3.os,hu3.tape,hu3.output,hu3.size,hu3.block⟩) ht3 ho3 hv3 rfl
  | false=>
   obtain⟨hx,h1,h2⟩:=over_no ho
   have HO:Hid (Sp.over s y.i=false):=ho
   clear ho
   have H1:Hid (Sp.isAt s y.i 124=false):=h1
   clear h1
   have H2:Hid (Sp.isAt s y.i 41=false):=h2
   clear h2
   go_wp2_with fail
   refine (pAtEnd_no r s ⟨y.i,e0,a0,d,y.t⟩ _ (by exact HF.out) hx).mono ?_
   rintro e w1 ⟨rfl,n1,hw1⟩
   rw [hw1]
   clear hw1 w1
   go_wp2_with fail
   refine (pNext_is r s ⟨y.i,e0,a0,d,y.t⟩ 124 false _ (by exact HF.out) hyi H1.out).mono ?_
   rintro e w2 ⟨rfl,n2,hw2⟩
   rw [hw2]
   clear hw2 w2
   go_wp2_with fail
   refine (pNext_is r s ⟨y.i,e0,a0,d,y.t⟩ 41 false _ (by exact HF.out) hyi H2.out).mono ?_
   rintro e w3 ⟨rfl,n3,hw3⟩
   rw [hw3]
   clear hw3 w3
   go_wp2_with fail
   refine (pPart_any r s y.i e0 a0 d y.t _ (by exact HF.out) hyi hs hd hy0 hy9 k HSUB.out HK.out).mono ?_
   rintro e w4 ⟨hu4,hq4⟩
   have HW4:Hid (Upd [r] wr w4):=⟨hu4.os,hu4.tape,hu4.output,hu4.size,hu4.block⟩
   have HU4:Hid (Upd [r] w w4):=HU.out.trans HW4.out
   clear hu4
   revert hq4
   cases hp:Sp.part (Sp.choice s k) s d ⟨y.i,y.t⟩ with
   | error p=>
    obtain⟨e1,a1⟩:=p
    rintro ⟨i',t',rfl,hf4⟩
    have HR:Hid (Sp.row (Sp.choice s k) s d ⟨i0,t0⟩=.error (e1,a1)):=by
     show _=_;unfold Sp.row;rw [HQ.out,Sp.parts,HO.out];simp only [show Sp.part (Sp.choice s k) s d y=_ from hp];rfl
    clear hp
    go_wp2_with fail
    go_ret2
    exact PNodeOut.mk_error _ _ i' t' HR.out HU4.out rfl hf4
   | ok p=>
    obtain⟨tr,z⟩:=p
    rintro ⟨q,rfl,hn4,hf4⟩
    obtain⟨hz1,hz2,hz3,hz4⟩:=Sp.part_good (Sp.choice_good s k) hp hy0 hy9
    have HR:Hid (Sp.parts (Sp.choice s k) s d (s.size+1) [] ⟨i0,t0⟩=Sp.parts (Sp.choice s k) s d fuel (ts++[tr]) z):=by
     show _=_;rw [HQ.out,Sp.parts,HO.out];simp only [show Sp.part (Sp.choice s k) s d y=_ from hp];rfl
    have HF4:Hid (PdAt w4 r s ⟨z.i,e0,a0,d,z.t⟩):=hf4
    have HN4:Hid (NodesAt w4 (fun k=>wr.heap.size≤k) [q] [tr]):=hn4
    have hsz:w.heap.size≤wr.heap.size:=HU.out.size
    have hsz4:wr.heap.size≤w4.heap.size:=HW4.out.size
    have HD4:Hid (Kds w4 w.heap.size l qs ts):=HD.out.upd HW4.out hr
    have hql:qs.length≤200:=by have:=HD.out.length;omega
    clear hp hf4 hn4
    unfold ptr
    go_wp2_with (first|(at_builtin;refine wpList_append_own_at _ rfl _ _ 115 rfl w.heap.size 67 it (.pointer none) 1 8 Tryz.underlying115 HI.out.1 HI.out.2.1 HI.out.2.2.1 HI.out.2.2.2 rfl (by decide) _ _ _ rfl (HD4.out.own.alloc _) ⟨w4.heap.size,0,none⟩ 1 1 [.pointer (some ⟨q,0,none⟩)] rfl rfl ?c1 ?c2 ?c3 ?c4 ?c5 ?_)|fail)
    case c1=>exact cell_one_new _ _ _
    case c2=>intro u hu;simp at hu;subst hu;rfl
    case c3=>unfold maxLen;omega
    case c4=>omega
    case c5=>simp;omega
    intro v' w5 hown' hgrow hnil hloc
    have HD5:Hid (Kds w5 w.heap.size v' (qs++[q]) (ts++[tr])):=HD.out.step HN4.out hsz (fun k hk hl=>HW4.out.block k hl (by simp;omega)) hsz4 hown' hgrow hloc
    have HU5:Hid (Upd [r] w w5):=(HU4.out.alloc _).shrink (Upd.of_grown hgrow) (fun g hg=>by
     right;have e:l.ownBlock=some g:=by simpa using hg
     exact (ownBlock_lt HD.out.own e).2)
    have HF5:Hid (PdAt w5 r s ⟨z.i,e0,a0,d,z.t⟩):=by
     show w5.heap[r]?=_
     rw [hgrow.block r (by simp;omega) (fun e=>by have:=(ownBlock_lt HD.out.own e.symm).2;omega),Below.heap_alloc _ _ _ (by omega)]
     exact HF4.out
    clear hown' hgrow hnil hloc HD4 HF4 HN4
    go_wp2_with fail
    go_roundg fuel
    case measure=>omega
    case rel=>exact⟨HU5.out,z,_,_,HF5.out,HD5.out,HR.out,by have:y.i < z.i:=hz1;omega,hz2,by have:y.i < z.i:=hz1;simp;omega,hz3,hz4⟩
structure PChoiceInv (r:Nat) (s:ByteArray) (i0:Nat) (e0 a0:Int) (d:Nat) (t0:Int) (sub:Sp.At→Sp.Res (Tr×Sp.At)) (w:World) (n:Nat) (l:Value) (wr:World):Prop where
 upd:Upd [r] w wr
 st:∃ y ts qs,PdAt wr r s ⟨y.i,e0,a0,d,y.t⟩∧Kds wr w.heap.size l qs ts∧Sp.rows sub s d (s.size+1) [] ⟨i0,t0⟩=Sp.rows sub s d n ts y∧s.size+1≤n+y.i∧y.i≤s.size∧ts.length≤y.i∧0≤y.t∧y.t≤9
theorem rows_succ (sub:Sp.At→Sp.Res (Tr×Sp.At)) (s:ByteArray) (d n:Nat) (l:List Tr) (x:Sp.At):Sp.rows sub s d (n+1) l x=match Sp.row sub s d x with | .error f=>.error f | .ok (t,y)=>if Sp.isAt s y.i 124 then Sp.rows sub s d n (l++[t]) ⟨y.i+1,y.t⟩ else .ok (l++[t],y):=by rw [Sp.rows];rfl
set_option maxHeartbeats 2000000 in
theorem pChoice_step (k:Nat) (hk8:k≤8) (hsub:1≤k→PChoiceC k):PChoiceC (k+1):=by
 intro r s x w h hs hi0 hxd ht0 ht9
 obtain⟨i0,e0,a0,xd,t0⟩:=x
 simp only at hi0 hxd ht0 ht9
 obtain⟨d,hd⟩:∃ d:Nat,xd=d:=⟨8 - k,by omega⟩
 subst hd
 have hr:=lt_of_heap h
 have hh:Hid (PdAt w r s ⟨i0,e0,a0,d,t0⟩):=h
 have HK:Hid ((d:Int)=8 - (k:Int)):=by show _=_;omega
 have HSUB:Hid (d < 8→PChoiceC k):=fun q=>hsub (by omega)
 have hd8:d≤8:=by omega
 have HCH:Hid (Sp.choice s (k+1) ⟨i0,t0⟩=match Sp.rows (Sp.choice s k) s d (s.size+1) [] ⟨i0,t0⟩ with | .error f=>.error f | .ok (l,y)=>.ok (⟨cLab,l⟩,y)):=by
  show _=_;rw [Sp.choice,show 8 - k=d by omega];rfl
 obtain⟨it,hi1,hi2,hi3,hi4⟩:=pInfoNode
 have HI:Hid (Tryz.prog.info? 67=some it∧it.zero=some (.pointer none)∧it.size=1∧it.bytes=8):=⟨hi1,hi2,hi3,hi4⟩
 clear h hxd hsub hi1 hi2 hi3 hi4
 go_enter Tryz.func60,Tryz.ntmps60
 go_wp2_with fail
 go_loopg [4] (s.size+1) (fun gn l wr=>PChoiceInv r s i0 e0 a0 d t0 (Sp.choice s k) w gn l wr)
 case atStart=>exact⟨Upd.refl _ _,⟨i0,t0⟩,[],[],hh.out,Kds.empty _ _,rfl,by simp,hi0,by simp,ht0,ht9⟩
 case round=>
  obtain⟨hu,y,ts,qs,hf,hkd,heq,hgn,hyi,hlen,hy0,hy9⟩:=hrel
  clear hh
  obtain⟨fuel,rfl⟩:∃ n,gk=n+1:=⟨gk - 1,by omega⟩
  obtain⟨l,hl⟩:∃ l,l=u4:=⟨u4,rfl⟩
  rw [← hl] at hkd ⊢
  clear hl u4
  have HF:Hid (PdAt wr r s ⟨y.i,e0,a0,d,y.t⟩):=hf
  have HU:Hid (Upd [r] w wr):=hu
  have HD:Hid (Kds wr w.heap.size l qs ts):=hkd
  have HQ:Hid (Sp.rows (Sp.choice s k) s d (s.size+1) [] ⟨i0,t0⟩=Sp.rows (Sp.choice s k) s d (fuel+1) ts y):=heq
  clear hf hu hkd heq
  go_wp2_with fail
  refine (pRow_any r s y.i e0 a0 d y.t _ (by exact HF.out) hyi hs hd8 hy0 hy9 k HSUB.out HK.out).mono ?_
  rintro e w4 ⟨hu4,hq4⟩
  have HW4:Hid (Upd [r] wr w4):=hu4
  have HU4:Hid (Upd [r] w w4):=HU.out.trans hu4
  clear hu4
  revert hq4
  cases hp:Sp.row (Sp.choice s k) s d ⟨y.i,y.t⟩ with
  | error p=>
   obtain⟨e1,a1⟩:=p
   rintro ⟨i',t',rfl,hf4⟩
   have HR:Hid (Sp.choice s (k+1) ⟨i0,t0⟩=.error (e1,a1)):=by
    show _=_;rw [HCH.out,HQ.out,rows_succ,show Sp.row (Sp.choice s k) s d y=_ from hp]
   clear hp
   go_wp2_with fail
   go_ret2
   exact PNodeOut.mk_error _ _ i' t' HR.out HU4.out rfl hf4
  | ok p=>
   obtain⟨tr,z⟩:=p
   rintro ⟨q,rfl,hn4,hf4⟩
   obtain⟨hz1,hz2,hz3,hz4⟩:=Sp.row_good (Sp.choice_good s k) _ _ _ hp (by exact hyi) hy0 hy9
   have hz1':y.i≤z.i:=hz1
   have HP:Hid (Sp.row (Sp.choice s k) s d y=.ok (tr,z)):=hp
   have HF4:Hid (PdAt w4 r s ⟨z.i,e0,a0,d,z.t⟩):=hf4
   have HN4:Hid (NodesAt w4 (fun k=>wr.heap.size≤k) [q] [tr]):=hn4
   have hsz:w.heap.size≤wr.heap.size:=HU.out.size
   have hsz4:wr.heap.size≤w4.heap.size:=HW4.out.size
   have HD4:Hid (Kds w4 w.heap.size l qs ts):=HD.out.upd HW4.out hr
   have hql:qs.length≤200:=by have:=HD.out.length;omega
   clear hp hf4 hn4 hz1
   unfold ptr
   go_wp2_with (first|(at_builtin;refine wpList_append_own_at _ rfl _ _ 115 rfl w.heap.size 67 it (.pointer none) 1 8 Tryz.underlying115 HI.out.1 HI.out.2.1 HI.out.2.2.1 HI.out.2.2.2 rfl (by decide) _ _ _ rfl (HD4.out.own.alloc _) ⟨w4.heap.size,0,none⟩ 1 1 [.pointer (some ⟨q,0,none⟩)] rfl rfl ?c1 ?c2 ?c3 ?c4 ?c5 ?_)|fail)
   case c1=>exact cell_one_new _ _ _
   case c2=>intro u hu;simp at hu;subst hu;rfl
   case c3=>unfold maxLen;omega
   case c4=>omega
   case c5=>simp;omega
   intro v' w5 hown' hgrow hnil hloc
   have HD5:Hid (Kds w5 w.heap.size v' (qs++[q]) (ts++[tr])):=HD.out.step HN4.out hsz (fun k hk hl=>HW4.out.block k hl (by simp;omega)) hsz4 hown' hgrow hloc
   have HU5:Hid (Upd [r] w w5):=(HU4.out.alloc _).shrink (Upd.of_grown hgrow) (fun g hg=>by
    right;have e:l.ownBlock=some g:=by simpa using hg
    exact (ownBlock_lt HD.out.own e).2)
   have HF5:Hid (PdAt w5 r s ⟨z.i,e0,a0,d,z.t⟩):=by
    show w5.heap[r]?=_
    rw [hgrow.block r (by simp;omega) (fun e=>by have:=(ownBlock_lt HD.out.own e.symm).2;omega),Below.heap_alloc _ _ _ (by omega)]
    exact HF4.out
   clear hown' hgrow hnil hloc HD4 HF4 HN4
   cases h1:Sp.isAt s z.i 124 with
   | true=>
    have H1:Hid (Sp.isAt s z.i 124=true):=h1
    have hlt:=Sp.isAt_lt h1
    have HR:Hid (Sp.rows (Sp.choice s k) s d (s.size+1) [] ⟨i0,t0⟩=Sp.rows (Sp.choice s k) s d fuel (ts++[tr]) ⟨z.i+1,z.t⟩):=by
     show _=_;rw [HQ.out,rows_succ,HP.out];simp only [h1];rfl
    clear h1
    go_wp2_with fail
    refine (pTake_yes r s ⟨z.i,e0,a0,d,z.t⟩ _ _ (by exact HF5.out) hs H1.out).mono ?_
    rintro e w6 ⟨rfl,hu6,hf6⟩
    have HU6:Hid (Upd [r] w w6):=HU5.out.trans hu6
    have HD6:Hid (Kds w6 w.heap.size v' (qs++[q]) (ts++[tr])):=HD5.out.upd hu6 hr
    have HF6:Hid (PdAt w6 r s ⟨z.i+1,e0,a0,d,z.t⟩):=hf6
    clear hu6 hf6
    go_wp2_with fail
    go_roundg fuel
    case measure=>omega
    case rel=>exact⟨HU6.out,⟨z.i+1,z.t⟩,_,_,HF6.out,HD6.out,HR.out,by simp;omega,hlt,by simp;omega,hz3,hz4⟩
   | false=>
    have H1:Hid (Sp.isAt s z.i 124=false):=h1
    have HR:Hid (Sp.choice s (k+1) ⟨i0,t0⟩=.ok (⟨cLab,ts++[tr]⟩,z)):=by
     show _=_;rw [HCH.out,HQ.out,rows_succ,HP.out];simp only [h1];rfl
    clear h1
    go_wp2_with fail
    refine (pTake_no r s ⟨z.i,e0,a0,d,z.t⟩ _ _ (by exact HF5.out) (by exact hz2) hs H1.out).mono ?_
    rintro e w6 ⟨rfl,hu6,hf6⟩
    have HU6:Hid (Upd [r] w w6):=HU5.out.trans hu6
    have HD6:Hid (Kds w6 w.heap.size v' (qs++[q]) (ts++[tr])):=HD5.out.upd hu6 hr
    have HF6:Hid (PdAt w6 r s ⟨z.i,e0,a0,d,z.t⟩):=hf6
    clear hu6 hf6
    go_wp2_with fail
    refine (tChoice_any v' (qs++[q]) (ts++[tr]) _ _ (by exact own_zero HD6.out.own) (by simp;omega) (by exact HD6.out.nodes)).mono ?_
    rintro e w7 ⟨p,v,rfl,hp,hu7,ht7,ho7,hv7⟩
    go_wp2_with fail
    go_ret2
    exact row_end HR.out (by simp [cLab,Sp.blank]) (by simp [cLab]) (tnOf_choice _ _) HU6.out HF6.out HD6.out hp hu7 ht7 ho7 hv7 rfl
theorem pChoice_all:∀ k,1≤k→k≤9→PChoiceC k
 | 0,h,_=>by omega
 | k+1,_,h=>pChoice_step k (by omega) (fun q=>pChoice_all k q (by omega))
def wholeR (s:ByteArray):Sp.Res (Tr×Sp.At):=match Sp.choice s 9 ⟨0,0⟩ with
 | .error f=>.error f
 | .ok (t,y)=>if y.i < s.size then .error (3,y.i) else .ok (t,y)
set_option maxHeartbeats 800000 in
theorem pWhole_any (r:Nat) (s:ByteArray) (w:World) (h:PdAt w r s ⟨0,0,0,0,0⟩) (hs:s.size≤200) :
  Calls Tryz.prog 41 #[.pointer (some ⟨r,0,none⟩)] w (PNodeOut r s ⟨0,0,0,0,0⟩ w (wholeR s)):=by
 have hr:=lt_of_heap h
 have hh:Hid (PdAt w r s ⟨0,0,0,0,0⟩):=h
 clear h
 go_enter Tryz.func41,Tryz.ntmps41
 go_wp2_with fail
 refine (pChoice_all 9 (by omega) (by omega) r s ⟨0,0,0,0,0⟩ _ (by exact hh.out) hs (by simp) (by simp) (by simp) (by simp)).mono ?_
 rintro e w1 ⟨hu,hq⟩
 have HU1:Hid (Upd [r] w w1):=hu
 clear hu
 revert hq
 cases hc:Sp.choice s 9 ⟨0,0⟩ with
 | error p=>
  obtain⟨e1,a1⟩:=p
  rintro ⟨i',t',rfl,hf⟩
  have HR:Hid (wholeR s=.error (e1,a1)):=by show _=_;unfold wholeR;rw [hc]
  clear hc
  go_wp2_with fail
  go_ret2
  exact PNodeOut.mk_error _ _ i' t' HR.out HU1.out rfl hf
 | ok p=>
  obtain⟨t,y⟩:=p
  rintro ⟨p,rfl,hn,hf⟩
  have HC:Hid (Sp.choice s 9 ⟨0,0⟩=.ok (t,y)):=hc
  obtain⟨hy1,hy2,hy3,hy4⟩:=Sp.choice_good s 9 _ _ _ hc (by simp) (by simp) (by simp)
  have HF1:Hid (PdAt w1 r s ⟨y.i,0,0,0,y.t⟩):=hf
  have HN1:Hid (NodesAt w1 (fun k=>w.heap.size≤k) [p] [t]):=hn
  obtain⟨c0,c1,c2,c3,c4,c5,fz⟩:=HF1.out.facts
  clear hf hn hc
  unfold ptr
  by_cases hlt:y.i < s.size
  ·have HR:Hid (wholeR s=.error (3,y.i)):=by show _=_;unfold wholeR;rw [HC.out];simp [hlt]
   go_wp2_with fail
   refine (pAtEnd_no r s ⟨y.i,0,0,0,y.t⟩ _ (by exact HF1.out) hlt).mono ?_
   rintro e w2 ⟨rfl,n2,rfl⟩
   go_wp2_with fail
   refine (pRefuse_any r s ⟨y.i,0,0,0,y.t⟩ _ _ _ (by exact HF1.out)).mono ?_
   rintro e w3 ⟨rfl,hu3,hf3⟩
   go_wp2_with fail
   go_ret2
   exact PNodeOut.mk_error _ _ y.i y.t HR.out ((HU1.out.trans (drewN_upd _ _ _)).trans hu3) rfl hf3
  ·have HE:Hid (y.i=s.size):=by show _=_;omega
   have HR:Hid (wholeR s=.ok (t,y)):=by show _=_;unfold wholeR;rw [HC.out];simp [hlt]
   go_wp2_with fail
   refine (pAtEnd_yes r s ⟨y.i,0,0,0,y.t⟩ _ (by exact HF1.out) HE.out).mono ?_
   rintro e w2 ⟨rfl,n2,rfl⟩
   go_wp2_with fail
   go_ret2
   exact PNodeOut.mk_ok _ _ p HR.out (HU1.out.trans (drewN_upd _ _ _)) rfl (NodesAt.same _ _ HN1.out (fun _ _ _=>rfl)) (HF1.out.drewN n2)
def PReadOut (w:World) (res:Sp.Res (Tr×Int)) (k:Ending) (w':World):Prop:=
 Upd [] w w'∧match res with
 | .ok (t,n)=>∃ p,k=.returned (.tuple #[ptr p,.int .i64 n,.agg #[.int .i64 0,.int .i64 0]])∧NodesAt w' (fun k=>w.heap.size≤k) [p] [t]
 | .error (e,a)=>k=.returned (.tuple #[.pointer none,.int .i64 0,.agg #[.int .i64 e,.int .i64 a]])
theorem PReadOut.mk_ok {w w':World} {res:Sp.Res (Tr×Int)} {k:Ending} (t:Tr) (n:Int) (p:Nat) (h:res=.ok (t,n)) (u:Upd [] w w') (hk:k=.returned (.tuple #[ptr p,.int .i64 n,.agg #[.int .i64 0,.int .i64 0]])) (hn:NodesAt w' (fun k=>w.heap.size≤k) [p] [t]):PReadOut w res k w':=by
 subst h;exact⟨u,p,hk,hn⟩
theorem PReadOut.mk_error {w w':World} {res:Sp.Res (Tr×Int)} {k:Ending} (e a:Int) (h:res=.error (e,a)) (u:Upd [] w w') (hk:k=.returned (.tuple #[.pointer none,.int .i64 0,.agg #[.int .i64 e,.int .i64 a]])):PReadOut w res k w':=by
 subst h;exact⟨u,hk⟩
theorem PdAt.new {w:World} {s:ByteArray} {x:RS} {c:Array Value} {p:Nat} (hc:c=pdCells s x) (hp:p=w.heap.size):PdAt (w.alloc (.cells c 111)) p s x:=by
 subst hp hc;show (w.heap.push _)[w.heap.size]?=_;simp
theorem pread_long {s:ByteArray} (h:200 < s.size):Sp.read s=.error (2,0):=by unfold Sp.read;rw [if_pos h]
theorem pread_err {s:ByteArray} {f:Sp.Fault} (h:¬ 200 < s.size) (hw:wholeR s=.error f):Sp.read s=.error f:=by
 unfold Sp.read;rw [if_neg h];unfold wholeR at hw
 cases hc:Sp.choice s 9 ⟨0,0⟩ with
 | error g=>rw [hc] at hw;simp only at hw ⊢;cases hw;rfl
 | ok p=>
  obtain⟨t,y⟩:=p
  rw [hc] at hw;simp only at hw ⊢
  split at hw
  ·rename_i q;rw [if_pos q];cases hw;rfl
  ·cases hw
theorem pread_ok {s:ByteArray} {t:Tr} {y:Sp.At} (h:¬ 200 < s.size) (hw:wholeR s=.ok (t,y)):Sp.read s=if Sp.size t > 60 then .error (7,0) else .ok (t,y.t):=by
 unfold Sp.read;rw [if_neg h];unfold wholeR at hw
 cases hc:Sp.choice s 9 ⟨0,0⟩ with
 | error g=>rw [hc] at hw;cases hw
 | ok p=>
  obtain⟨t',y'⟩:=p
  rw [hc] at hw;simp only at hw ⊢
  split at hw
  ·cases hw
  ·rename_i q;cases hw;rw [if_neg q]
theorem pread_fin {w w1 w2:World} {res:Sp.Res (Tr×Int)} {k:Ending} {t:Tr} {n:Int} {p:Nat} (h:res=.ok (t,n)) (hk:k=.returned (.tuple #[ptr p,.int .i64 n,.agg #[.int .i64 0,.int .i64 0]])) (hu:Upd [] w w1) (hn:NodesAt w1 (fun k=>w.heap.size+2≤k) [p] [t]) (hu2:Upd [w.heap.size] w1 w2):PReadOut w res k w2:=
 PReadOut.mk_ok _ _ p h (hu.hide hu2 (Nat.le_refl _)) hk (NodesAt.mono _ _ (hn.upd hu2 (fun k hk=>by simp at hk;omega)) (fun k hk _=>by omega))
set_option maxHeartbeats 800000 in
theorem pRead_any (s:ByteArray) (w:World) :
  Calls Tryz.prog 22 #[.string s] w (PReadOut w (Sp.read s)):=by
 by_cases hl:200 < s.size
 ·have HR:Hid (Sp.read s=.error (2,0)):=pread_long hl
  have hl':(200:Int) < s.size:=by omega
  go_enter Tryz.func22,Tryz.ntmps22
  go_wp2_with fail
  refine bodyPost_ret (v:=.tuple #[.pointer none,.int .i64 0,.agg #[.int .i64 2,.int .i64 0]]) (by simp [results,Tryz.results22,go_sem]) rfl ?_
  exact PReadOut.mk_error _ _ HR.out (by (repeat (first|exact Upd.refl _ _|refine Upd.drewN ?_|refine Upd.drew ?_|refine Upd.setCell ?_ (by simp) _|refine Upd.alloc ?_ _))) rfl
 ·have hs:s.size≤200:=by omega
  have hl':¬ (200:Int) < s.size:=by omega
  have HNL:Hid (¬ 200 < s.size):=hl
  have hh:Hid (PdAt ((w.alloc (.cells #[.int .i64 0,.int .i64 0] 69)).alloc (.cells (pdCells s ⟨0,0,0,0,0⟩) 111)) (w.heap.size+1) s ⟨0,0,0,0,0⟩):=PdAt.new rfl (by simp)
  go_enter Tryz.func22,Tryz.ntmps22
  go_wp2_with fail
  refine (pWhole_any (w.heap.size+1) s _ (by exact hh.out) hs).mono ?_
  rintro e w1 ⟨hu,hq⟩
  have HU1:Hid (Upd [] w w1):=(((Upd.refl [] w).alloc _).alloc _).hide hu (by simp)
  have hsz1:w.heap.size+2≤w1.heap.size:=by have:=hu.size;simp at this;omega
  have hb:w1.heap[w.heap.size]?=some (.cells #[.int .i64 0,.int .i64 0] 69 (0,0)):=by
   rw [hu.block w.heap.size (by simp;omega) (by simp),Below.heap_alloc _ _ _ (by simp)]
   show (w.heap.push _)[w.heap.size]?=_;simp
  have b0:w1.cell? ⟨w.heap.size,0,none⟩=some (.int .i64 0):=by simp [World.cell?,hb]
  have b1:w1.cell? ⟨w.heap.size,1,none⟩=some (.int .i64 0):=by simp [World.cell?,hb]
  have bz:∀ o,w1.frozen? ⟨w.heap.size,o,none⟩=false:=by intro o;simp [World.frozen?,hb]
  clear hu hb
  revert hq
  cases hw:wholeR s with
  | error p=>
   obtain⟨e1,a1⟩:=p
   rintro ⟨i',t',rfl,hf⟩
   have HR:Hid (Sp.read s=.error (e1,a1)):=pread_err HNL.out hw
   obtain⟨c0,c1,c2,c3,c4,c5,fz⟩:=PdAt.facts hf
   have c4':w1.cell? ⟨w.heap.size+1,4,none⟩=some (.int .i64 e1):=c4
   have c5':w1.cell? ⟨w.heap.size+1,5,none⟩=some (.int .i64 a1):=c5
   clear hw c4 c5 hf
   go_wp2_with fail
   go_region
   go_wp2_with fail
   refine bodyPost_ret (v:=.tuple #[.pointer none,.int .i64 0,.agg #[.int .i64 e1,.int .i64 a1]]) (by simp [results,Tryz.results22,go_sem,b0,b1,bz]) rfl ?_
   exact PReadOut.mk_error _ _ HR.out (HU1.out.hide (q:=w.heap.size) (by (repeat (first|exact Upd.refl _ _|refine Upd.drewN ?_|refine Upd.drew ?_|refine Upd.setCell ?_ (by simp) _|refine Upd.alloc ?_ _))) (Nat.le_refl _)) rfl
  | ok p=>
   obtain⟨t,y⟩:=p
   rintro ⟨p,rfl,hn,hf⟩
   have HN1:Hid (NodesAt w1 (fun k=>w.heap.size+2≤k) [p] [t]):=NodesAt.mono _ _ hn (fun k hk _=>by have hk':((w.alloc _).alloc _).heap.size≤k:=hk;simp at hk';omega)
   have HR:Hid (Sp.read s=if Sp.size t > 60 then .error (7,0) else .ok (t,y.t)):=pread_ok HNL.out hw
   have hz:=nodePsz HN1.out
   obtain⟨c0,c1,c2,c3,c4,c5,fz⟩:=PdAt.facts hf
   have c3':w1.cell? ⟨w.heap.size+1,3,none⟩=some (.int .i64 y.t):=c3
   clear hw hn c3 hf
   unfold ptr
   by_cases h60:60 < psz t
   ·have HR':Hid (Sp.read s=.error (7,0)):=by show _=_;rw [HR.out,if_pos (by unfold psz at h60;omega)]
    go_wp2_with fail
    refine bodyPost_ret (v:=.tuple #[.pointer none,.int .i64 0,.agg #[.int .i64 7,.int .i64 0]]) (by simp [results,Tryz.results22,go_sem,b0,b1,bz]) rfl ?_
    exact PReadOut.mk_error _ _ HR'.out (HU1.out.hide (q:=w.heap.size) (by (repeat (first|exact Upd.refl _ _|refine Upd.drewN ?_|refine Upd.drew ?_|refine Upd.setCell ?_ (by simp) _|refine Upd.alloc ?_ _))) (Nat.le_refl _)) rfl
   ·have HR':Hid (Sp.read s=.ok (t,y.t)):=by show _=_;rw [HR.out,if_neg (by unfold psz at h60;omega)]
    go_wp2_with fail
    go_region
    go_wp2_with fail
    refine bodyPost_ret (v:=.tuple #[.pointer (some ⟨p,0,none⟩),.int .i64 y.t,.agg #[.int .i64 0,.int .i64 0]]) (by simp [results,Tryz.results22,go_sem,b0,b1,bz]) rfl ?_
    refine pread_fin HR'.out rfl HU1.out HN1.out ?_
    (repeat (first|exact Upd.refl _ _|refine Upd.drewN ?_|refine Upd.drew ?_|refine Upd.setCell ?_ (by simp) _|refine Upd.alloc ?_ _))
end Go.Proofs.YtcpfpnjkfahjcaaGreat
