import Derived.Test.YtcpfpnjkfahjcaaGreatH04
import Derived.Lib.SliceRun
set_option linter.unusedSimpArgs false
set_option linter.unusedVariables false
namespace Go.Proofs.YtcpfpnjkfahjcaaGreat
open Go.RowKit
set_option maxHeartbeats 400000 in
theorem tSizeOf_nil (w:World) :
  Calls Tryz.prog 106 #[.slice none 0 0] w fun e w'=>e=.returned (.int .i64 (pszs []))∧w'=w:=by
 go_enter Tryz.func106,Tryz.ntmps106
 go_wp2_with fail
 refine wp_loop_rounds 1 ?_
 rw [rounds_succ]
 go_wp2_with fail
 go_ret
 exact⟨ret_int pszs_nil.symm,rfl⟩
set_option maxHeartbeats 400000 in
theorem tSizeOf_some (g cap:Nat) (qs:List Nat) (ts:List Tr) (S:Nat→Prop) (w:World) (hql:qs.length≤1000) (hcell:∀ k q,qs[k]?=some q→w.cell? ⟨g,k,none⟩=some (ptr q)) (hn:NodesAt w S qs ts) :
  Calls Tryz.prog 106 #[.slice (some ⟨g,0,none⟩) qs.length cap] w fun e w'=>e=.returned (.int .i64 (pszs ts))∧w'=w:=by
 have HN:Hid (NodesAt w S qs ts):=hn
 have HL:Hid (qs.length=ts.length):=NodesAt.length _ _ hn
 have HT0:Hid (ts.take qs.length=ts):=by show _=_;rw [HL.out];exact List.take_length
 clear hn
 go_enter Tryz.func106,Tryz.ntmps106
 go_wp2_with fail
 go_loop [3,8] (fun n i=>∃ k:Nat,k≤qs.length∧i=.int .i64 k∧n=.int .i64 (pszs (ts.take k))) (fun _ i=>qs.length - (intOf i).toNat)
 case atStart=>exact⟨0,by omega,rfl,by rw [List.take_zero,pszs_nil]⟩
 case round=>
  obtain⟨k,hk1,rfl,rfl⟩:=hrel
  obtain⟨b0,b1⟩:=pszs_bd (ts.take k)
  by_cases hlt:k < qs.length
  ·obtain⟨q,hq⟩:∃ q,qs[k]?=some q:=⟨_,List.getElem?_eq_getElem hlt⟩
   obtain⟨t,ht⟩:∃ t,ts[k]?=some t:=⟨_,List.getElem?_eq_getElem (by have:=HL.out;omega)⟩
   have hc:=hcell k q hq
   unfold ptr at hc
   have hz:=nodePsz (NodesAt.get _ _ HN.out k q t hq ht)
   have p0:=psz_nn t
   have p1:=psz_le t
   have HT:Hid (pszs (ts.take (k+1))=min (pszs (ts.take k)+psz t) 61):=by show _=_;rw [take_get ht,pszs_snoc]
   clear hq ht hcell
   go_wp2_with fail
   all_goals
    go_round
    case rel=>exact⟨k+1,by omega,by go_num,by rw [HT.out];exact int_eq (by omega)⟩
    case measure=>simp [intOf];omega
  ·obtain⟨z,HZ⟩:∃ z,Hid (z=pszs (ts.take k)):=⟨_,(rfl:pszs (ts.take k)=_)⟩
   have HZ':Hid (pszs ts=z):=by show _=_;rw [HZ.out,show k=qs.length by omega,HT0.out]
   rw [← HZ.out]
   clear hcell b0 b1 HZ HT0 HL HN
   go_wp2_with fail
   go_ret
   exact⟨ret_int HZ'.out.symm,rfl⟩
theorem tSizeOf_any (l:Value) (qs:List Nat) (ts:List Tr) (S:Nat→Prop) (w:World) (ho:w.ownsRow 0 67 1 l qs.length (qs.map ptr)) (hql:qs.length≤1000) (hn:NodesAt w S qs ts) :
  Calls Tryz.prog 106 #[l] w fun e w'=>e=.returned (.int .i64 (pszs ts))∧w'=w:=by
 rcases own_cells ho with ⟨hl,hqs⟩|⟨g,cap,hl,hcap,hmax,hcell⟩
 ·subst hl hqs
  have hts:ts=[]:=List.eq_nil_of_length_eq_zero (by have:=NodesAt.length _ _ hn;simpa using this.symm)
  subst hts
  exact tSizeOf_nil w
 ·subst hl
  exact tSizeOf_some g cap qs ts S w hql hcell hn
theorem pInfoNode:∃ i,Tryz.prog.info? 67=some i∧i.zero=some (.pointer none)∧i.size=1∧i.bytes=8:=by
 have h:(Tryz.prog.info? 67).map (fun i=>(i.zero,i.size,i.bytes))=some (some (.pointer none),1,8):=by kernel_rfl
 cases hi:Tryz.prog.info? 67 with
 | none=>rw [hi] at h;cases h
 | some i=>rw [hi] at h;simp at h;exact⟨i,rfl,h.1,h.2.1,h.2.2⟩
theorem own_zero {w:World} {b:Nat} {e:TypeId} {v:Value} {n:Nat} {xs:List Value} (h:w.ownsRow b e 1 v n xs):w.ownsRow 0 e 1 v n xs:=
 ⟨h.1,h.2.imp id (fun ⟨g,cap,cur,h1,_,h3⟩=>⟨g,cap,cur,h1,Nat.zero_le _,h3⟩)⟩
theorem own_slice {w:World} {b:Nat} {e:TypeId} {v:Value} {n:Nat} {xs:List Value} (h:w.ownsRow b e 1 v n xs):∃ a m c,v=.slice a m c:=by
 rcases h.2 with ⟨q,_⟩|⟨g,cap,_,hv,_⟩
 ·exact⟨_,_,_,q⟩
 ·exact⟨_,_,_,hv⟩
def CloneOut (w:World) (qs:List Nat) (e:Ending) (w':World):Prop:=
 ∃ v,e=.returned v∧Upd [] w w'∧w'.ownsRow 0 67 1 v qs.length (qs.map ptr)∧∀ g,v.ownBlock=some g→w.heap.size≤g
set_option maxHeartbeats 400000 in
set_option maxRecDepth 20000 in
theorem tClone_nil (w:World):Calls Tryz.prog 107 #[.slice none 0 0] w (CloneOut w []):=by
 have qT:∀ (w:World) (a:Option Addr) (n c:Nat),(binOp .eql 115 (.slice a n c) (.slice none 0 0)).run Tryz.prog w=.ok (.bool a.isNone) w:=fun w a n c=>Lib.run_eql_slice_nil w _ _ a n c 0 0 Tryz.underlying115
 go_enter Tryz.func107,Tryz.ntmps107
 go_wp2_with fail
 go_ret
 exact⟨_,rfl,Upd.refl _ _,World.ownsRow_nil _ _ _ _,by intro g hg;simp [Value.ownBlock] at hg⟩
set_option maxHeartbeats 400000 in
set_option maxRecDepth 20000 in
theorem tClone_some (g cap:Nat) (qs:List Nat) (w:World) (hg:g < w.heap.size) (hql:qs.length≤1000) (hcell:∀ k q,qs[k]?=some q→w.cell? ⟨g,k,none⟩=some (ptr q)) :
  Calls Tryz.prog 107 #[.slice (some ⟨g,0,none⟩) qs.length cap] w (CloneOut w qs):=by
 have qT:∀ (w:World) (a:Option Addr) (n c:Nat),(binOp .eql 115 (.slice a n c) (.slice none 0 0)).run Tryz.prog w=.ok (.bool a.isNone) w:=fun w a n c=>Lib.run_eql_slice_nil w _ _ a n c 0 0 Tryz.underlying115
 obtain⟨it,hi1,hi2,hi3,hi4⟩:=pInfoNode
 have HI:Hid (Tryz.prog.info? 67=some it∧it.zero=some (.pointer none)∧it.size=1∧it.bytes=8):=⟨hi1,hi2,hi3,hi4⟩
 have HC:Hid (∀ k q,qs[k]?=some q→w.cell? ⟨g,k,none⟩=some (ptr q)):=hcell
 clear hi1 hi2 hi3 hi4 hcell
 go_enter Tryz.func107,Tryz.ntmps107
 go_wp2_with (first|(at_builtin;refine wpList_append_own_at _ rfl _ _ 115 rfl w.heap.size 67 it (.pointer none) 1 8 Tryz.underlying115 HI.out.1 HI.out.2.1 HI.out.2.2.1 HI.out.2.2.2 rfl (by decide) _ _ _ rfl (World.ownsRow_made w #[] 0 (Nat.le_refl _) (by omega) rfl) ⟨g,0,none⟩ qs.length cap (qs.map ptr) rfl (by simp) ?c1 ?c2 ?c3 ?c4 ?c5 ?_)|fail)
 case c1=>
  intro j u hj
  rw [List.getElem?_map] at hj
  cases hq:qs[j]? with
  | none=>rw [hq] at hj;cases hj
  | some q=>rw [hq] at hj;cases hj;rw [show ((⟨g,0,none⟩:Addr).add j)=⟨g,j,none⟩ by simp [Addr.add];omega,World.cell?_alloc_past _ _ _ hg];exact HC.out j q hq
 case c2=>intro u hu;simp at hu;obtain⟨q,_,rfl⟩:=hu;rfl
 case c3=>unfold maxLen;omega
 case c4=>omega
 case c5=>simp
 intro v' w5 hown hgrow hnil hloc
 have HX:Hid (Upd [] w w5∧w5.ownsRow 0 67 1 v' qs.length (qs.map ptr)∧∀ g,v'.ownBlock=some g→w.heap.size≤g):=
  ⟨((Upd.refl [] w).alloc _).hide (Upd.of_grown hgrow) (Nat.le_refl _),own_zero (by simpa using hown),fun g hg=>(ownBlock_lt hown hg).2⟩
 clear hown hgrow hnil hloc
 go_wp2_with fail
 go_ret
 exact⟨v',rfl,HX.out⟩
theorem tClone_any (l:Value) (qs:List Nat) (w:World) (ho:w.ownsRow 0 67 1 l qs.length (qs.map ptr)) (hql:qs.length≤1000):Calls Tryz.prog 107 #[l] w (CloneOut w qs):=by
 rcases own_cells ho with ⟨hl,hqs⟩|⟨g,cap,hl,hcap,hmax,hcell⟩
 ·subst hl hqs;exact tClone_nil w
 ·have hg:g < w.heap.size:=(ownBlock_lt ho (by rw [hl];rfl)).1
  subst hl
  exact tClone_some g cap qs w hg hql hcell
def RowOut (w:World) (k:Int) (qs:List Nat) (ts:List Tr) (e:Ending) (w':World):Prop:=
 ∃ p v,e=.returned (ptr p)∧w.heap.size≤p∧Upd [] w w'∧TnAt w' p { kind:=k,size:=pszs ts,parts:=v,byte:=0,s0:=0,s1:=0,s2:=0,s3:=0,not:=false,num:=0,least:=0,most:=0 }∧w'.ownsRow 0 67 1 v qs.length (qs.map ptr)∧∀ g,v.ownBlock=some g→w.heap.size≤g
set_option maxHeartbeats 400000 in
theorem tRow_any (l:Value) (qs:List Nat) (ts:List Tr) (S:Nat→Prop) (w:World) (ho:w.ownsRow 0 67 1 l qs.length (qs.map ptr)) (hql:qs.length≤1000) (hn:NodesAt w S qs ts) :
  Calls Tryz.prog 105 #[l] w (RowOut w 5 qs ts):=by
 have HO:Hid (w.ownsRow 0 67 1 l qs.length (qs.map ptr)):=ho
 have HN:Hid (NodesAt w S qs ts):=hn
 clear ho hn
 go_enter Tryz.func105,Tryz.ntmps105
 go_wp2_with fail
 refine (tSizeOf_any l qs ts S _ (by exact HO.out) hql (by exact HN.out)).mono ?_
 rintro e w1 ⟨rfl,hw1⟩
 rw [hw1]
 clear hw1 w1
 go_wp2_with fail
 refine (tClone_any l qs _ (by exact HO.out) hql).mono ?_
 rintro e w2 ⟨v,rfl,hu,hown,hv⟩
 obtain⟨a,n,c,rfl⟩:=own_slice hown
 have HX:Hid (Upd [] w w2∧w2.ownsRow 0 67 1 (.slice a n c) qs.length (qs.map ptr)∧∀ g,(Value.slice a n c).ownBlock=some g→w.heap.size≤g):=⟨hu,hown,hv⟩
 clear hu hown hv
 go_wp2_with fail
 go_ret
 exact⟨_,_,rfl,HX.out.1.size,HX.out.1.alloc _,TnAt.new rfl rfl,HX.out.2.1.alloc _,HX.out.2.2⟩
set_option maxHeartbeats 400000 in
theorem tChoice_any (l:Value) (qs:List Nat) (ts:List Tr) (S:Nat→Prop) (w:World) (ho:w.ownsRow 0 67 1 l qs.length (qs.map ptr)) (hql:qs.length≤1000) (hn:NodesAt w S qs ts) :
  Calls Tryz.prog 84 #[l] w (RowOut w 6 qs ts):=by
 have HO:Hid (w.ownsRow 0 67 1 l qs.length (qs.map ptr)):=ho
 have HN:Hid (NodesAt w S qs ts):=hn
 clear ho hn
 go_enter Tryz.func84,Tryz.ntmps84
 go_wp2_with fail
 refine (tSizeOf_any l qs ts S _ (by exact HO.out) hql (by exact HN.out)).mono ?_
 rintro e w1 ⟨rfl,hw1⟩
 rw [hw1]
 clear hw1 w1
 go_wp2_with fail
 refine (tClone_any l qs _ (by exact HO.out) hql).mono ?_
 rintro e w2 ⟨v,rfl,hu,hown,hv⟩
 obtain⟨a,n,c,rfl⟩:=own_slice hown
 have HX:Hid (Upd [] w w2∧w2.ownsRow 0 67 1 (.slice a n c) qs.length (qs.map ptr)∧∀ g,(Value.slice a n c).ownBlock=some g→w.heap.size≤g):=⟨hu,hown,hv⟩
 clear hu hown hv
 go_wp2_with fail
 go_ret
 exact⟨_,_,rfl,HX.out.1.size,HX.out.1.alloc _,TnAt.new rfl rfl,HX.out.2.1.alloc _,HX.out.2.2⟩
end Go.Proofs.YtcpfpnjkfahjcaaGreat
