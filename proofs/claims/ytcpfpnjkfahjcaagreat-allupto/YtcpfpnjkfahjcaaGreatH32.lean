import Derived.Test.YtcpfpnjkfahjcaaGreatH31
import Derived.Deep.WholeRow
set_option linter.unusedSimpArgs false
set_option linter.unusedVariables false
namespace Go.Proofs.YtcpfpnjkfahjcaaGreat
open Go.RowKit
def bigStore (a v:Value):Sem Unit:=Instr.storeAt 129 a v
theorem storeAt_node (a v:Value):Instr.storeAt 129 a v=bigStore a v:=rfl
theorem run_bigStore (w:World) (n:Sp.Nd):(bigStore (.pointer (some ⟨w.heap.size,0,none⟩)) (.agg (ndArr n))).run Tryz.prog (w.alloc (.cells Tryz.zeroCells129 129))=.ok () (w.alloc (.cells (ndArr n) 129)):=by
 obtain⟨it,z,hi1,hi2,hi3,hi4,hi5⟩:=infoNode
 have hz:Tryz.zeroCells129.size=260:=by kernel_rfl
 exact run_storeAt_new w 129 _ _ (by rw [hi1];simp [ndArr_size,hi3]) (by rw [hz,ndArr_size]) (by rw [Array.all_eq_true_iff_forall_mem];intro u hu;exact ndArr_one n u (by simpa using hu))
attribute [local go_sem ↓] build_bigNode loadAt_node storeAt_node
theorem Bel.setCell {p:Nat} {w w':World} (h:Bel p w w') {b:Nat} (hb:w.heap.size≤b) (hp:p < w.heap.size) (o:Nat) (u:Value):Bel p w (w'.setCell ⟨b,o,none⟩ u):=by
 have hk:∀ k,k < w.heap.size→(w'.setCell ⟨b,o,none⟩ u).heap[k]?=w'.heap[k]?:=fun k hk=>Below.heap_setCell _ _ _ _ (by simp;omega)
 exact⟨h.os,h.tape,h.output,by have:=h.size;simp [World.setCell];omega,fun k h1 h2=>(hk k h2).trans (h.block k h1 h2),fun k h1 h2 h3=>(hk k h1).trans (h.rest k h1 h2 h3),by rw [ownB_same (hk p hp)];exact h.own⟩
theorem Bel.alloc {p:Nat} {w w':World} (h:Bel p w w') (hp:p < w.heap.size) (o:Obj):Bel p w (w'.alloc o):=by
 have hs:=h.size
 have hk:∀ k,k < w.heap.size→(w'.alloc o).heap[k]?=w'.heap[k]?:=fun k hk=>Below.heap_alloc _ _ _ (by omega)
 exact⟨h.os,h.tape,h.output,by simp;omega,fun k h1 h2=>(hk k h2).trans (h.block k h1 h2),fun k h1 h2 h3=>(hk k h1).trans (h.rest k h1 h2 h3),by rw [ownB_same (hk p hp)];exact h.own⟩
theorem CpAt.lt {w:World} {p:Nat} {c:Sp.Cp} {top:Int} (h:CpAt w p c top):p < w.heap.size:=by obtain⟨v,h1,_⟩:=h;exact lt_of_heap h1
structure CpBel (w:World) (p b:Nat) (c:Sp.Cp) (top:Int):Prop where
 lt:p < b
 at':∃ v,RpAt w p v c.ns.length (c.ns.flatMap ndCells) top c.told∧∀ g,v.ownBlock=some g→g < b
theorem CpBel.new {w:World} {p:Nat} {c:Sp.Cp} {top:Int} (h:CpAt w p c top) (o:Obj):CpBel (w.alloc o) p w.heap.size c top:=by
 have hp:=h.lt
 obtain⟨v,h1,h2⟩:=h
 exact⟨hp,v,⟨by rw [Below.heap_alloc _ _ _ hp];exact h1,h2.alloc _⟩,fun g hg=>(ownBlock_lt h2 hg).1⟩
theorem CpBel.setCell {w:World} {p b:Nat} {c:Sp.Cp} {top:Int} (h:CpBel w p b c top) (o:Nat) (u:Value):CpBel (w.setCell ⟨b,o,none⟩ u) p b c top:=by
 obtain⟨h1,v,⟨h2,h3⟩,h4⟩:=h
 exact⟨h1,v,⟨by rw [Below.heap_setCell _ _ _ _ (by simp;omega)];exact h2,ownsRow_same h3 (fun g hg _=>Below.heap_setCell _ _ _ _ (by have:=h4 g hg;simp;omega))⟩,h4⟩
theorem CpBel.drew {w:World} {p b:Nat} {c:Sp.Cp} {top:Int} (h:CpBel w p b c top):CpBel w.drew p b c top:=by
 obtain⟨h1,v,⟨h2,h3⟩,h4⟩:=h;exact⟨h1,v,⟨h2,h3⟩,h4⟩
theorem CpBel.cp {w:World} {p b:Nat} {c:Sp.Cp} {top:Int} (h:CpBel w p b c top):CpAt w p c top:=by
 obtain⟨h1,v,h2,h4⟩:=h;exact⟨v,h2⟩
def listN (a:Lab) (c:Nat):Sp.Nd:=⟨1,0,0,fun k=>decide (k < c) && (a.set k != a.not),0⟩
structure ListN (p b:Nat) (top:Int) (w:World) (cp:Sp.Cp) (a:Lab) (gn:Nat) (i:Value) (wr:World):Prop where
 st:∃ c:Nat,i=.int .i64 c∧gn+c=256∧NdAt wr b (listN a c)
 cp:CpBel wr p b cp top
 bel:Bel p w wr
theorem listN_step (a:Lab) (c:Nat):{ listN a c with set:=fun k=>if k=c then (a.set c != a.not) else (listN a c).set k }=listN a (c+1):=by
 have hf:(fun k=>if k=c then (a.set c != a.not) else (listN a c).set k)=(listN a (c+1)).set:=by
  funext k
  unfold listN
  by_cases e:k=c
  ·subst e;simp
  ·have:decide (k < c+1)=decide (k < c):=by simp;omega
   simp only [this,if_neg e]
 rw [hf];rfl
set_option maxRecDepth 100000 in
set_option maxHeartbeats 1000000 in
theorem bare_98 (p q:Nat) (t:Tr) (l:Value) (w0:World) (hq:PtAt w0 q (psOf t.lab l)) (hqp:q < p) (hk:t.lab.kind≤2) (hk':kindOf t.lab.kind=98):CompC 45 (Sp.bare t) p q w0:=by
 intro w c top hbel hcp hlen ht0 ht1
 clear ht0 ht1
 have HG:Hid (Sp.bare t c=c.add ⟨1,0,0,fun k=>t.lab.set k != t.lab.not,0⟩):=by show _=_;unfold Sp.bare Sp.bareEnd;rw [if_pos hk]
 rw [HG.out] at hlen ⊢
 have hlen1:c.ns.length≤1000000:=by simp [Sp.Cp.add] at hlen;omega
 have hq0:Hid (PtAt w q (psOf t.lab l)):=hq.bel hbel hqp
 generalize t.lab=a at *
 clear HG hq hbel hlen
 have HCP:Hid (CpAt w p c top):=hcp
 have hp:=hcp.lt
 clear hcp
 have q0:w.cell? ⟨q,0,none⟩=some (.int .u8 98):=by rw [← hk'];exact hq0.out.facts.1
 have pz:=hq0.out.facts.fz
 have hbn:=run_bigNode1
 have hbs:=run_bigStore w
 clear hk'
 go_enter Tryz.func45,Tryz.ntmps45
 go_wp2_with fail
 have HN1:Hid (NdAt (w.alloc (.cells (ndArr (Sp.nd 1 0 0)) 129)) w.heap.size (Sp.nd 1 0 0)):=NdAt.new w _
 have HC1:Hid (CpBel (w.alloc (.cells (ndArr (Sp.nd 1 0 0)) 129)) p w.heap.size c top):=CpBel.new HCP.out _
 have HB1:Hid (Bel p w (w.alloc (.cells (ndArr (Sp.nd 1 0 0)) 129))):=(Bel.refl p w).alloc hp _
 clear hbn hbs q0 pz
 generalize w.alloc (.cells (ndArr (Sp.nd 1 0 0)) 129)=w1 at *
 go_loopg [6] 256 (fun gn i wr=>ListN p w.heap.size top w c a gn i wr)
 case atStart=>exact⟨⟨0,rfl,rfl,by have h:=HN1.out;unfold NdAt at *;rw [h,ndArr_congr (n:=Sp.nd 1 0 0) (m:=listN a 0) rfl rfl rfl (fun k _=>by simp [Sp.nd,listN]) rfl]⟩,HC1.out,HB1.out⟩
 case round=>
  clear HN1 HC1 HB1
  obtain⟨⟨k,rfl,hgk,hn⟩,hcb,hbl⟩:=hrel
  have HK:Hid (gk+k=256):=hgk
  have HQ:PtAt wr q (psOf a l):=hq0.out.bel hbl hqp
  have r258:wr.cell? ⟨q,258,none⟩=some (.bool a.not):=HQ.facts.3
  have pz:=HQ.facts.fz
  have HN:Hid (NdAt wr w.heap.size (listN a k)):=hn
  have HCB:Hid (CpBel wr p w.heap.size c top):=hcb
  have HB:Hid (Bel p w wr):=hbl
  have nz:=hn.fz
  by_cases hlt:k < 256
  ·have rk:wr.cell? ⟨q,2+k,none⟩=some (.bool (a.set k)):=HQ.setFact k hlt
   have nk:=hn.cellC k hlt
   obtain⟨fuel,rfl⟩:∃ n,gk=n+1:=⟨gk - 1,by omega⟩
   have HN2:Hid (NdAt (wr.setCell ⟨w.heap.size,3+k,none⟩ (.bool (a.set k != a.not))) w.heap.size (listN a (k+1))):=by have h:=hn.setC k hlt (a.set k != a.not);rw [listN_step] at h;exact h
   have HC2:Hid (CpBel (wr.setCell ⟨w.heap.size,3+k,none⟩ (.bool (a.set k != a.not))) p w.heap.size c top):=hcb.setCell _ _
   have HB2:Hid (Bel p w (wr.setCell ⟨w.heap.size,3+k,none⟩ (.bool (a.set k != a.not)))):=hbl.setCell (Nat.le_refl _) hp _ _
   clear hn hcb hbl hgk HQ
   go_wp2_with fail
   go_region
   all_goals
    go_wp2_with fail
    go_roundg fuel
    case measure=>omega
    case rel=>exact⟨⟨k+1,by go_num,by have:=HK.out;omega,HN2.out⟩,HC2.out.drew,HB2.out.drewN 1⟩
  ·have hk6:k=256:=by omega
   subst hk6
   have hld:=hn.load0
   have HE:Hid (ndArr (listN a 256)=ndArr ⟨1,0,0,fun k=>a.set k != a.not,0⟩):=ndArr_congr rfl rfl rfl (fun k hk=>by simp [listN,hk]) rfl
   rw [HE.out] at hld
   clear hn hcb hbl hgk HQ HE
   go_wp2_with fail
   refine (add_cp p c top _ wr HCB.out.cp hlen1).mono ?_
   rintro e w3 ⟨rfl,hc3,hb3⟩
   go_wp2_with fail
   go_ret
   exact⟨rfl,hc3,HB.out.trans hb3⟩
attribute [local go_sem ↓] build_bigNode loadAt_node storeAt_node
theorem CpBel.told {w:World} {p b:Nat} {c:Sp.Cp} {top:Int} (h:CpBel w p b c top) (z:Int):CpBel (w.setCell ⟨p,2,none⟩ (.int .i64 z)) p b ⟨c.ns,z⟩ top:=by
 obtain⟨h1,v,⟨h2,h3⟩,h4⟩:=h
 exact⟨h1,v,⟨heap_set h2 2 _,ownsRow_same h3 (fun g hg _=>Below.heap_setCell _ _ _ _ (by have:=(ownBlock_lt h3 hg).2;simp;omega))⟩,h4⟩
theorem CpBel.cells {w:World} {p b:Nat} {c:Sp.Cp} {top:Int} (h:CpBel w p b c top):w.cell? ⟨p,2,none⟩=some (.int .i64 c.told)∧∀ o,w.frozen? ⟨p,o,none⟩=false:=by
 obtain⟨h1,v,⟨h2,h3⟩,h4⟩:=h
 exact⟨by simp [World.cell?,h2],fun o=>by simp [World.frozen?,h2]⟩
theorem CpBel.ownB {w:World} {p b:Nat} {c:Sp.Cp} {top:Int} (h:CpBel w p b c top) (k:Nat) (hk:b≤k):Go.Proofs.YtcpfpnjkfahjcaaGreat.ownB w p≠some k:=by
 obtain⟨h1,v,h2,h4⟩:=h
 rw [h2.ownB];intro e;have:=h4 k e;omega
theorem Bel.setP {p:Nat} {w w':World} (h:Bel p w w') {c:Sp.Cp} {top:Int} {b:Nat} (hc:CpBel w' p b c top) (z:Int):Bel p w (w'.setCell ⟨p,2,none⟩ (.int .i64 z)):=by
 have h':=hc.told z
 obtain⟨h1,v,h2,h4⟩:=hc
 have hb:=heap_set h2.block 2 (.int .i64 z)
 have hk:∀ k,k≠p→(w'.setCell ⟨p,2,none⟩ (.int .i64 z)).heap[k]?=w'.heap[k]?:=fun k hk=>Below.heap_setCell _ _ _ _ (by simpa using hk)
 have ho:Go.Proofs.YtcpfpnjkfahjcaaGreat.ownB (w'.setCell ⟨p,2,none⟩ (.int .i64 z)) p=Go.Proofs.YtcpfpnjkfahjcaaGreat.ownB w' p:=by rw [h2.ownB];unfold Go.Proofs.YtcpfpnjkfahjcaaGreat.ownB;rw [hb];rfl
 exact⟨h.os,h.tape,h.output,by have:=h.size;simp [World.setCell];omega,fun k h1 h2=>(hk k (by omega)).trans (h.block k h1 h2),fun k h1 h2 h3=>(hk k h2).trans (h.rest k h1 h2 h3),by rw [ho];exact h.own⟩
theorem CpAt.setCell {w:World} {p b:Nat} {c:Sp.Cp} {top:Int} (h:CpAt w p c top) (hb:b≠p) (ho:ownB w p≠some b) (o:Nat) (u:Value):CpAt (w.setCell ⟨b,o,none⟩ u) p c top:=by
 obtain⟨v,h2⟩:=h
 have hq:=h2.ownB
 exact⟨v,⟨by rw [Below.heap_setCell _ _ _ _ (by simpa using hb.symm)];exact h2.block,ownsRow_same h2.own (fun g hg _=>Below.heap_setCell _ _ _ _ (by simp;intro e;exact ho (by rw [hq,hg,e])))⟩⟩
theorem NdAt.bel {w w':World} {p b:Nat} {n:Sp.Nd} (h:NdAt w b n) (u:Bel p w w') (hb:b≠p) (ho:ownB w p≠some b):NdAt w' b n:=(u.rest b h.lt hb ho).trans h
theorem Bel.own_ne {w w':World} {p b:Nat} (u:Bel p w w') (hb:b < w.heap.size) (ho:ownB w p≠some b):ownB w' p≠some b:=by
 rcases u.own with q|⟨g,q,hg⟩
 ·rw [q];exact ho
 ·rw [q];simp;omega
theorem kid_facts {w0 w:World} {p q:Nat} {a:Lab} {l:Value} {qs:List Nat} (h:NodeAt w0 q a l qs) (u:Bel p w0 w) (hqp:q < p) (hl:∀ g,l.ownBlock=some g→g < p):NodeAt w q a l qs:=
 ⟨h.pt.bel u hqp,ownsRow_same h.own (fun g hg hlt=>u.block g (hl g hg) hlt)⟩
theorem NdAt.cellN {w:World} {b:Nat} {n:Sp.Nd} (h:NdAt w b n):w.cell? ⟨b,259,none⟩=some (.int .i64 n.num):=by
 have h2:(ndArr n)[259]?=some (.int .i64 n.num):=rfl
 simp [World.cell?,show w.heap[b]?=_ from h,h2]
theorem NdAt.cellA {w:World} {b:Nat} {n:Sp.Nd} (h:NdAt w b n):w.cell? ⟨b,1,none⟩=some (.int .i64 n.a):=by
 have h2:(ndArr n)[1]?=some (.int .i64 n.a):=rfl
 simp [World.cell?,show w.heap[b]?=_ from h,h2]
def grpN (num:Int):Sp.Nd:=⟨4,0,0,fun _=>false,num⟩
theorem Sp.Cp.add_told (c:Sp.Cp) (n:Sp.Nd):(c.add n).1.told=c.told:=rfl
theorem Sp.pick_told:∀ (l:List Int) (x:Sp.Cp×Int),(Sp.pick l x).1.told=x.1.told
 | [],_=>rfl
 | k::r,x=>by rw [Sp.pick,Sp.pick_told r];split<;>rfl
theorem Sp.chain_told:∀ (l:List Int) (x:Sp.Cp×Int),(Sp.chain l x).1.told=x.1.told
 | [],_=>rfl
 | k::r,x=>by rw [Sp.chain,Sp.chain_told r];rfl
theorem Sp.open1_told (a:Lab) (c:Sp.Cp):c.told≤(Sp.open1 a c).told:=by
 unfold Sp.open1;split
 ·show c.told≤c.told+1;omega
 ·omega
theorem Sp.bareEnd_told (a:Lab) (c:Sp.Cp) (x:Sp.Cp×List Int) (h:c.told≤x.1.told):c.told≤(Sp.bareEnd a c x).1.told:=by
 unfold Sp.bareEnd;repeat' split
 ·rw [Sp.Cp.add_told];omega
 ·rw [Sp.Cp.add_told];omega
 ·rw [Sp.pick_told];exact h
 ·rw [Sp.chain_told,Sp.Cp.add_told];exact h
theorem Sp.comps_told:∀ (l:List Tr) (c:Sp.Cp),c.told≤(Sp.comps l c).1.told
 | [],c=>by rw [Sp.comps_nil];exact Int.le_refl _
 | ⟨a,ks⟩::r,c=>by
  rw [Sp.comps_cons]
  have h1:=Sp.comps_told ks (Sp.open1 a c)
  have h2:=Sp.open1_told a c
  have h3:=Sp.bareEnd_told a c (Sp.comps ks (Sp.open1 a c)) (by omega)
  have h4:(Sp.comp ⟨a,ks⟩ c).1.told=(Sp.bareEnd a c (Sp.comps ks (Sp.open1 a c))).1.told:=by unfold Sp.comp Sp.bare;rw [Sp.wrap_told]
  have h5:=Sp.comps_told r (Sp.comp ⟨a,ks⟩ c).1
  show _≤(Sp.comps r _).1.told
  omega
theorem Sp.comp_told (t:Tr) (c:Sp.Cp):c.told≤(Sp.comp t c).1.told:=by
 have h:=Sp.comps_told [t] c
 rw [Sp.comps_cons,Sp.comps_nil] at h;exact h
set_option maxRecDepth 100000 in
set_option maxHeartbeats 1000000 in
theorem bare_40n (p q q1:Nat) (a:Lab) (t1:Tr) (l:Value) (w0:World) (hq:NodeAt w0 q a l [q1]) (hqp:q < p) (hgl:∀ g,l.ownBlock=some g→g < p) (hk:a.kind=3) (hT:a.told=false) (hih:CompC 24 (Sp.comp t1) p q1 w0):CompC 45 (Sp.bare ⟨a,[t1]⟩) p q w0:=by
 intro w c top hbel hcp hlen ht0 ht1
 have HG:Hid (Sp.bare ⟨a,[t1]⟩ c=(Sp.comp t1 c).1.add ⟨4,(Sp.comp t1 c).2,0,fun _=>false,0⟩):=by
  show _=_
  unfold Sp.bare Sp.bareEnd Sp.open1 Sp.numOf
  simp [hk,hT,Sp.comps_cons,Sp.comps_nil]
 rw [HG.out] at hlen ht1 ⊢
 clear HG
 have hlen1:(Sp.comp t1 c).1.ns.length≤1000000:=by simp [Sp.Cp.add] at hlen;omega
 have ht2:(Sp.comp t1 c).1.told≤1000000:=ht1
 have htl:c.told+1≤1000001:=by have:=Sp.comp_told t1 c;omega
 have HK:Hid (NodeAt w q a l [q1]):=kid_facts hq hbel hqp hgl
 have HCP:Hid (CpAt w p c top):=hcp
 have HB0:Hid (Bel p w0 w):=hbel
 have HIH:Hid (CompC 24 (Sp.comp t1) p q1 w0):=hih
 have hp:=hcp.lt
 clear hcp hbel hih hq hlen ht1
 have q0:w.cell? ⟨q,0,none⟩=some (.int .u8 40):=by have h:=HK.out.pt.facts.1;rw [h];simp [psOf,kindOf,hk]
 have pz:=HK.out.pt.facts.fz
 have q261:w.cell? ⟨q,261,none⟩=some (.bool false):=by rw [← hT];exact HK.out.pt.facts.6
 obtain⟨g,cap,rfl,hcap,hcap2,hcell⟩:∃ g cap,l=.slice (some ⟨g,0,none⟩) 1 cap∧1≤cap∧cap≤maxLen∧w.cell? ⟨g,0,none⟩=some (ptr q1):=by
  rcases own_cells HK.out.own with ⟨_,h⟩|⟨g,cap,h1,h2,h3,h4⟩
  ·cases h
  ·exact⟨g,cap,h1,h2,h3,h4 0 q1 rfl⟩
 have hgp:g < p:=hgl g rfl
 unfold ptr at hcell
 have hq1:w.cell? ⟨q,1,none⟩=some (.slice (some ⟨g,0,none⟩) 1 cap):=HK.out.pt.facts.2
 have HKs:∀ W:World,Bel p w W→(∀ o x,w.cell? ⟨q,o,none⟩=some x→W.cell? ⟨q,o,none⟩=some x)∧W.cell? ⟨g,0,none⟩=some (.pointer (some ⟨q1,0,none⟩)):=fun W hW=>⟨fun o x hx=>by
   have:=hW.block q hqp (by omega);unfold World.cell? at hx ⊢;simpa [this] using hx,by
   have:=hW.block g hgp (by omega);unfold World.cell? at hcell ⊢;simpa [this] using hcell⟩
 have HB1:Hid (Bel p w (w.alloc (.cells (ndArr (Sp.nd 4 0 0)) 129))):=(Bel.refl p w).alloc hp _
 have HN1:Hid (NdAt (w.alloc (.cells (ndArr (Sp.nd 4 0 0)) 129)) w.heap.size (grpN 0)):=NdAt.new w _
 have HC1:Hid (CpBel (w.alloc (.cells (ndArr (Sp.nd 4 0 0)) 129)) p w.heap.size c top):=CpBel.new HCP.out _
 have r261:=(HKs _ HB1.out).1 261 _ q261
 have HB3:=HB1
 have HC3:=HC1
 have HN3:=HN1
 have r1:=(HKs _ HB3.out).1 1 _ hq1
 have rg:=(HKs _ HB3.out).2
 have hbn:=run_bigNode1
 have hbs:=run_bigStore w
 clear HKs
 go_enter Tryz.func45,Tryz.ntmps45
 go_wp2_with fail
 refine (HIH.out _ c top (HB0.out.trans HB3.out) HC3.out.cp hlen1 ht0 ht2).mono ?_
 rintro e w4 ⟨rfl,hc4,hb4⟩
 have HN4:NdAt w4 w.heap.size (grpN 0):=HN3.out.bel hb4 (by omega) (HC3.out.ownB _ (Nat.le_refl _))
 have HO4:ownB w4 p≠some w.heap.size:=hb4.own_ne HN3.out.lt (HC3.out.ownB _ (Nat.le_refl _))
 have n4z:=HN4.fz
 have n4a:w4.cell? ⟨w.heap.size,1,none⟩=some (.int .i64 0):=HN4.cellA
 have HB4:Hid (Bel p w w4):=HB3.out.trans hb4
 have HN5:Hid (NdAt (w4.setCell ⟨w.heap.size,1,none⟩ (.int .i64 (Sp.comp t1 c).2)) w.heap.size ⟨4,(Sp.comp t1 c).2,0,fun _=>false,0⟩):=HN4.setA (Sp.comp t1 c).2
 have HC5:Hid (CpAt (w4.setCell ⟨w.heap.size,1,none⟩ (.int .i64 (Sp.comp t1 c).2)) p (Sp.comp t1 c).1 top):=hc4.setCell (by omega) HO4 _ _
 have HB5:Hid (Bel p w (w4.setCell ⟨w.heap.size,1,none⟩ (.int .i64 (Sp.comp t1 c).2))):=HB4.out.setCell (Nat.le_refl _) hp _ _
 have hld:=HN5.out.load0
 clear hc4 hb4 HN4 HO4 HB4 HB3 HC3 HN3 r1 rg hbn hbs r261 HB1 HC1 HN1
 go_wp2_with fail
 refine (add_cp p (Sp.comp t1 c).1 top _ _ HC5.out hlen1).mono ?_
 rintro e w6 ⟨rfl,hc6,hb6⟩
 go_wp2_with fail
 go_ret
 exact⟨rfl,hc6,HB5.out.trans hb6⟩
set_option maxRecDepth 100000 in
set_option maxHeartbeats 1000000 in
theorem bare_40t (p q q1:Nat) (a:Lab) (t1:Tr) (l:Value) (w0:World) (hq:NodeAt w0 q a l [q1]) (hqp:q < p) (hgl:∀ g,l.ownBlock=some g→g < p) (hk:a.kind=3) (hT:a.told=true) (hih:CompC 24 (Sp.comp t1) p q1 w0):CompC 45 (Sp.bare ⟨a,[t1]⟩) p q w0:=by
 intro w c top hbel hcp hlen ht0 ht1
 have HG:Hid (Sp.bare ⟨a,[t1]⟩ c=(Sp.comp t1 (⟨c.ns,c.told+1⟩:Sp.Cp)).1.add ⟨4,(Sp.comp t1 (⟨c.ns,c.told+1⟩:Sp.Cp)).2,0,fun _=>false,(c.told+1)⟩):=by
  show _=_
  unfold Sp.bare Sp.bareEnd Sp.open1 Sp.numOf
  simp [hk,hT,Sp.comps_cons,Sp.comps_nil]
 rw [HG.out] at hlen ht1 ⊢
 clear HG
 have hlen1:(Sp.comp t1 (⟨c.ns,c.told+1⟩:Sp.Cp)).1.ns.length≤1000000:=by simp [Sp.Cp.add] at hlen;omega
 have ht2:(Sp.comp t1 (⟨c.ns,c.told+1⟩:Sp.Cp)).1.told≤1000000:=ht1
 have htl:c.told+1≤1000001:=by have:=Sp.comp_told t1 (⟨c.ns,c.told+1⟩:Sp.Cp);have e:(⟨c.ns,c.told+1⟩:Sp.Cp).told=c.told+1:=rfl;omega
 have HK:Hid (NodeAt w q a l [q1]):=kid_facts hq hbel hqp hgl
 have HCP:Hid (CpAt w p c top):=hcp
 have HB0:Hid (Bel p w0 w):=hbel
 have HIH:Hid (CompC 24 (Sp.comp t1) p q1 w0):=hih
 have hp:=hcp.lt
 clear hcp hbel hih hq hlen ht1
 have q0:w.cell? ⟨q,0,none⟩=some (.int .u8 40):=by have h:=HK.out.pt.facts.1;rw [h];simp [psOf,kindOf,hk]
 have pz:=HK.out.pt.facts.fz
 have q261:w.cell? ⟨q,261,none⟩=some (.bool true):=by rw [← hT];exact HK.out.pt.facts.6
 obtain⟨g,cap,rfl,hcap,hcap2,hcell⟩:∃ g cap,l=.slice (some ⟨g,0,none⟩) 1 cap∧1≤cap∧cap≤maxLen∧w.cell? ⟨g,0,none⟩=some (ptr q1):=by
  rcases own_cells HK.out.own with ⟨_,h⟩|⟨g,cap,h1,h2,h3,h4⟩
  ·cases h
  ·exact⟨g,cap,h1,h2,h3,h4 0 q1 rfl⟩
 have hgp:g < p:=hgl g rfl
 unfold ptr at hcell
 have hq1:w.cell? ⟨q,1,none⟩=some (.slice (some ⟨g,0,none⟩) 1 cap):=HK.out.pt.facts.2
 have HKs:∀ W:World,Bel p w W→(∀ o x,w.cell? ⟨q,o,none⟩=some x→W.cell? ⟨q,o,none⟩=some x)∧W.cell? ⟨g,0,none⟩=some (.pointer (some ⟨q1,0,none⟩)):=fun W hW=>⟨fun o x hx=>by
   have:=hW.block q hqp (by omega);unfold World.cell? at hx ⊢;simpa [this] using hx,by
   have:=hW.block g hgp (by omega);unfold World.cell? at hcell ⊢;simpa [this] using hcell⟩
 have HB1:Hid (Bel p w (w.alloc (.cells (ndArr (Sp.nd 4 0 0)) 129))):=(Bel.refl p w).alloc hp _
 have HN1:Hid (NdAt (w.alloc (.cells (ndArr (Sp.nd 4 0 0)) 129)) w.heap.size (grpN 0)):=NdAt.new w _
 have HC1:Hid (CpBel (w.alloc (.cells (ndArr (Sp.nd 4 0 0)) 129)) p w.heap.size c top):=CpBel.new HCP.out _
 have r261:=(HKs _ HB1.out).1 261 _ q261
 have c2:=HC1.out.cells.1
 have cz:=HC1.out.cells.2
 have HB2:Hid (Bel p w ((w.alloc (.cells (ndArr (Sp.nd 4 0 0)) 129)).setCell ⟨p,2,none⟩ (.int .i64 (c.told+1)))):=HB1.out.setP HC1.out _
 have HC2:Hid (CpBel ((w.alloc (.cells (ndArr (Sp.nd 4 0 0)) 129)).setCell ⟨p,2,none⟩ (.int .i64 (c.told+1))) p w.heap.size (⟨c.ns,c.told+1⟩:Sp.Cp) top):=HC1.out.told _
 have HN2:Hid (NdAt ((w.alloc (.cells (ndArr (Sp.nd 4 0 0)) 129)).setCell ⟨p,2,none⟩ (.int .i64 (c.told+1))) w.heap.size (grpN 0)):=by show _=_;rw [Below.heap_setCell _ _ _ _ (by simp;omega)];exact HN1.out
 have d2:World.cell? ((w.alloc (.cells (ndArr (Sp.nd 4 0 0)) 129)).setCell ⟨p,2,none⟩ (.int .i64 (c.told+1))) ⟨p,2,none⟩=some (.int .i64 (c.told+1)):=HC2.out.cells.1
 have dz:=HN2.out.fz
 have d259:World.cell? ((w.alloc (.cells (ndArr (Sp.nd 4 0 0)) 129)).setCell ⟨p,2,none⟩ (.int .i64 (c.told+1))) ⟨w.heap.size,259,none⟩=some (.int .i64 0):=HN2.out.cellN
 have HB3:Hid (Bel p w (((w.alloc (.cells (ndArr (Sp.nd 4 0 0)) 129)).setCell ⟨p,2,none⟩ (.int .i64 (c.told+1))).setCell ⟨w.heap.size,259,none⟩ (.int .i64 (c.told+1)))):=HB2.out.setCell (Nat.le_refl _) hp _ _
 have HC3:Hid (CpBel (((w.alloc (.cells (ndArr (Sp.nd 4 0 0)) 129)).setCell ⟨p,2,none⟩ (.int .i64 (c.told+1))).setCell ⟨w.heap.size,259,none⟩ (.int .i64 (c.told+1))) p w.heap.size (⟨c.ns,c.told+1⟩:Sp.Cp) top):=HC2.out.setCell _ _
 have HN3:Hid (NdAt (((w.alloc (.cells (ndArr (Sp.nd 4 0 0)) 129)).setCell ⟨p,2,none⟩ (.int .i64 (c.told+1))).setCell ⟨w.heap.size,259,none⟩ (.int .i64 (c.told+1))) w.heap.size (grpN (c.told+1))):=HN2.out.setNum _
 have hsw:((w.alloc (.cells (ndArr (Sp.nd 4 0 0)) 129)).setCell ⟨p,2,none⟩ (.int .i64 (c.told+1)))=((w.setCell ⟨p,2,none⟩ (.int .i64 (c.told+1))).alloc (.cells (ndArr (Sp.nd 4 0 0)) 129)):=by
  exact World.setCell_alloc_past _ _ _ _ hp
 have hs3:((w.setCell ⟨p,2,none⟩ (.int .i64 (c.told+1))).alloc (.cells (ndArr (Sp.nd 4 0 0)) 129)).setCell ⟨w.heap.size,259,none⟩ (.int .i64 (c.told+1))=((w.setCell ⟨p,2,none⟩ (.int .i64 (c.told+1))).alloc (.cells ((ndArr (Sp.nd 4 0 0)).setIfInBounds 259 (.int .i64 (c.told+1))) 129)):=World.setCell_alloc_at _ _ _ _ _ (by simp [World.setCell])
 rw [hsw] at HB2 HC2 HN2 d2 dz d259 HB3 HC3 HN3
 rw [hs3] at HB3 HC3 HN3
 clear hsw hs3
 have r1:=(HKs _ HB3.out).1 1 _ hq1
 have rg:=(HKs _ HB3.out).2
 have hbn:=run_bigNode1
 have hbs:=run_bigStore w
 clear HKs
 go_enter Tryz.func45,Tryz.ntmps45
 go_wp2_with fail
 refine (HIH.out _ (⟨c.ns,c.told+1⟩:Sp.Cp) top (HB0.out.trans HB3.out) HC3.out.cp hlen1 (show 0≤c.told+1 by omega) ht2).mono ?_
 rintro e w4 ⟨rfl,hc4,hb4⟩
 have HN4:NdAt w4 w.heap.size (grpN (c.told+1)):=HN3.out.bel hb4 (by omega) (HC3.out.ownB _ (Nat.le_refl _))
 have HO4:ownB w4 p≠some w.heap.size:=hb4.own_ne HN3.out.lt (HC3.out.ownB _ (Nat.le_refl _))
 have n4z:=HN4.fz
 have n4a:w4.cell? ⟨w.heap.size,1,none⟩=some (.int .i64 0):=HN4.cellA
 have HB4:Hid (Bel p w w4):=HB3.out.trans hb4
 have HN5:Hid (NdAt (w4.setCell ⟨w.heap.size,1,none⟩ (.int .i64 (Sp.comp t1 (⟨c.ns,c.told+1⟩:Sp.Cp)).2)) w.heap.size ⟨4,(Sp.comp t1 (⟨c.ns,c.told+1⟩:Sp.Cp)).2,0,fun _=>false,(c.told+1)⟩):=HN4.setA (Sp.comp t1 (⟨c.ns,c.told+1⟩:Sp.Cp)).2
 have HC5:Hid (CpAt (w4.setCell ⟨w.heap.size,1,none⟩ (.int .i64 (Sp.comp t1 (⟨c.ns,c.told+1⟩:Sp.Cp)).2)) p (Sp.comp t1 (⟨c.ns,c.told+1⟩:Sp.Cp)).1 top):=hc4.setCell (by omega) HO4 _ _
 have HB5:Hid (Bel p w (w4.setCell ⟨w.heap.size,1,none⟩ (.int .i64 (Sp.comp t1 (⟨c.ns,c.told+1⟩:Sp.Cp)).2))):=HB4.out.setCell (Nat.le_refl _) hp _ _
 have hld:=HN5.out.load0
 clear hc4 hb4 HN4 HO4 HB4 HB3 HC3 HN3 r1 rg hbn hbs r261 HB1 HC1 HN1
 go_wp2_with fail
 refine (add_cp p (Sp.comp t1 (⟨c.ns,c.told+1⟩:Sp.Cp)).1 top _ _ HC5.out hlen1).mono ?_
 rintro e w6 ⟨rfl,hc6,hb6⟩
 go_wp2_with fail
 go_ret
 exact⟨rfl,hc6,HB5.out.trans hb6⟩
theorem Sp.Cp.add_len (c:Sp.Cp) (n:Sp.Nd):(c.add n).1.ns.length=c.ns.length+1:=by simp [Sp.Cp.add]
theorem Sp.pick_len:∀ (l:List Int) (x:Sp.Cp×Int),x.1.ns.length≤(Sp.pick l x).1.ns.length
 | [],_=>Nat.le_refl _
 | k::r,x=>by
  rw [Sp.pick]
  have:=Sp.pick_len r (if x.2 < 0 then (x.1,k) else x.1.add (Sp.nd 3 k x.2))
  split at this
  ·rename_i h;rw [if_pos h];exact this
  ·rename_i h;rw [if_neg h];rw [Sp.Cp.add_len] at this;omega
theorem Sp.chain_len:∀ (l:List Int) (x:Sp.Cp×Int),(Sp.chain l x).1.ns.length=x.1.ns.length+l.length
 | [],_=>rfl
 | k::r,x=>by rw [Sp.chain,Sp.chain_len r,Sp.Cp.add_len];simp;omega
theorem Sp.open1_len (a:Lab) (c:Sp.Cp):(Sp.open1 a c).ns=c.ns:=by unfold Sp.open1;split<;>rfl
theorem Sp.bareEnd_len (a:Lab) (c:Sp.Cp) (x:Sp.Cp×List Int) (h:c.ns.length≤x.1.ns.length):c.ns.length≤(Sp.bareEnd a c x).1.ns.length:=by
 unfold Sp.bareEnd;repeat' split
 ·rw [Sp.Cp.add_len];omega
 ·rw [Sp.Cp.add_len];omega
 ·have:=Sp.pick_len x.2.reverse (x.1,-1);simp at this;omega
 ·rw [Sp.chain_len,Sp.Cp.add_len];omega
theorem Sp.comps_len:∀ (l:List Tr) (c:Sp.Cp),c.ns.length≤(Sp.comps l c).1.ns.length
 | [],c=>by rw [Sp.comps_nil];exact Nat.le_refl _
 | ⟨a,ks⟩::r,c=>by
  rw [Sp.comps_cons]
  have h1:=Sp.comps_len ks (Sp.open1 a c)
  rw [Sp.open1_len] at h1
  have h3:=Sp.bareEnd_len a c (Sp.comps ks (Sp.open1 a c)) h1
  have h4:(Sp.bareEnd a c (Sp.comps ks (Sp.open1 a c))).1.ns.length≤(Sp.comp ⟨a,ks⟩ c).1.ns.length:=Sp.wrap_len _ _
  have h5:=Sp.comps_len r (Sp.comp ⟨a,ks⟩ c).1
  show _≤(Sp.comps r _).1.ns.length
  omega
theorem Sp.comps_append:∀ (l m:List Tr) (c:Sp.Cp),Sp.comps (l++m) c=((Sp.comps m (Sp.comps l c).1).1,(Sp.comps l c).2++(Sp.comps m (Sp.comps l c).1).2)
 | [],m,c=>by rw [Sp.comps_nil];rfl
 | u::r,m,c=>by rw [List.cons_append,Sp.comps_cons,Sp.comps_append r m,Sp.comps_cons];rfl
theorem Sp.comps_outs:∀ (l:List Tr) (c:Sp.Cp),(Sp.comps l c).2.length=l.length
 | [],c=>by rw [Sp.comps_nil];rfl
 | u::r,c=>by rw [Sp.comps_cons];simp [Sp.comps_outs r]
theorem Sp.comps_step {ks:List Tr} {j:Nat} {t:Tr} (c:Sp.Cp) (h:ks[j]?=some t):Sp.comps (ks.take (j+1)) c=((Sp.comp t (Sp.comps (ks.take j) c).1).1,(Sp.comps (ks.take j) c).2++[(Sp.comp t (Sp.comps (ks.take j) c).1).2]):=by
 rw [List.take_add_one,h];exact Sp.comps_snoc t _ _
theorem Sp.comps_part (ks:List Tr) (j:Nat) (c:Sp.Cp):(Sp.comps (ks.take j) c).1.ns.length≤(Sp.comps ks c).1.ns.length∧(Sp.comps (ks.take j) c).1.told≤(Sp.comps ks c).1.told∧c.told≤(Sp.comps (ks.take j) c).1.told:=by
 have h:Sp.comps ks c=Sp.comps (ks.take j++ks.drop j) c:=by rw [List.take_append_drop]
 rw [h,Sp.comps_append]
 exact⟨Sp.comps_len _ _,Sp.comps_told _ _,Sp.comps_told _ _⟩
theorem Sp.chain_snoc (k:Int):∀ (l:List Int) (x:Sp.Cp×Int),Sp.chain (l++[k]) x=(Sp.chain l x).1.add (Sp.nd 2 k (Sp.chain l x).2)
 | [],_=>rfl
 | u::r,x=>by rw [List.cons_append,Sp.chain,Sp.chain_snoc k r,Sp.chain]
theorem Sp.pick_snoc (k:Int):∀ (l:List Int) (x:Sp.Cp×Int),Sp.pick (l++[k]) x=(if (Sp.pick l x).2 < 0 then ((Sp.pick l x).1,k) else (Sp.pick l x).1.add (Sp.nd 3 k (Sp.pick l x).2))
 | [],_=>rfl
 | u::r,x=>by rw [List.cons_append,Sp.pick,Sp.pick_snoc k r,Sp.pick]
def ints (l:List Int):List Value:=l.map (fun k=>Value.int .i64 k)
structure LsAt (w wr:World) (p:Nat) (v:Value) (c:Sp.Cp) (top:Int) (outs:List Int):Prop where
 own:wr.ownsRow w.heap.size 3 1 v outs.length (ints outs)
 cp:CpAt wr p c top
 bel:Bel p w wr
 sep:∀ g,v.ownBlock=some g→ownB wr p≠some g
theorem LsAt.start {w:World} {p:Nat} {c:Sp.Cp} {top:Int} (h:CpAt w p c top):LsAt w w p (.slice none 0 0) c top []:=
 ⟨⟨by simp [ints],Or.inl ⟨rfl,rfl⟩⟩,h,Bel.refl _ _,fun g hg=>by cases hg⟩
theorem LsAt.node {w wr w':World} {p:Nat} {v:Value} {c c':Sp.Cp} {top:Int} {outs:List Int} (h:LsAt w wr p v c top outs) (hp:p < w.heap.size) (u:Bel p wr w') (hc:CpAt w' p c' top):LsAt w w' p v c' top outs:=
 ⟨ownsRow_same h.own (fun g hg hl=>u.rest g hl (by have:=(ownBlock_lt h.own hg).2;omega) (h.sep g hg)),hc,h.bel.trans u,fun g hg=>u.own_ne (ownBlock_lt h.own hg).1 (h.sep g hg)⟩
theorem LsAt.app {w wr W w5:World} {p:Nat} {v v':Value} {c:Sp.Cp} {top:Int} {outs:List Int} {k:Int} (h:LsAt w wr p v c top outs) (hp:p < w.heap.size) (hW:∀ k,k < wr.heap.size→W.heap[k]?=wr.heap[k]?) (hs:W.heap.size=wr.heap.size+1) (ho:W.os=wr.os) (ht:W.tape=wr.tape) (hu:W.output=wr.output)
  (hg:W.grownBy w5 v.ownBlock) (hown:w5.ownsRow w.heap.size 3 1 v' (outs.length+1) (ints outs++[.int .i64 k])) (hloc:v'.ownBlock=v.ownBlock∨v'.ownBlock=some W.heap.size):LsAt w w5 p v' c top (outs++[k]):=by
 have hsz:=h.bel.size
 have hb:∀ i,i < wr.heap.size→v.ownBlock≠some i→w5.heap[i]?=wr.heap[i]?:=fun i hi hn=>(hg.block i (by omega) (fun e=>hn e.symm)).trans (hW i hi)
 have hlow:∀ i,i < w.heap.size→w5.heap[i]?=wr.heap[i]?:=fun i hi=>hb i (by omega) (fun e=>by have:=(ownBlock_lt h.own e).2;omega)
 have hO:ownB w5 p=ownB wr p:=ownB_same (hlow p hp)
 have hcp:=h.cp
 obtain⟨x,hx⟩:=hcp
 have hxo:=hx.ownB
 refine⟨by simpa [ints] using hown,⟨x,⟨by rw [hlow p hp];exact hx.block,ownsRow_same hx.own (fun g hg' hl=>hb g hl (fun e=>h.sep g e (by rw [hxo,hg'])))⟩⟩,?_,?_⟩
 ·have hgs:=hg.size
  exact⟨hg.os.trans (ho.trans h.bel.os),hg.tape.trans (ht.trans h.bel.tape),hg.output.trans (hu.trans h.bel.output),by omega,fun i h1 h2=>(hlow i h2).trans (h.bel.block i h1 h2),fun i h1 h2 h3=>(hlow i h1).trans (h.bel.rest i h1 h2 h3),by rw [hO];exact h.bel.own⟩
 ·intro g hg'
  rw [hO]
  rcases hloc with q|q
  ·exact h.sep g (q ▸ hg')
  ·rw [q] at hg';simp at hg'
   rw [hxo];intro e;have:=(ownBlock_lt hx.own e).1;omega
theorem infoInt:∃ i,Tryz.prog.info? 3=some i∧i.zero=some (.int .i64 0)∧i.size=1∧i.bytes=8:=by
 have h:(Tryz.prog.info? 3).map (fun i=>(i.zero,i.size,i.bytes))=some (some (.int .i64 0),1,8):=by kernel_rfl
 cases hi:Tryz.prog.info? 3 with
 | none=>rw [hi] at h;cases h
 | some i=>rw [hi] at h;simp at h;exact⟨i,rfl,h.1,h.2.1,h.2.2⟩
attribute [local go_sem ↓] build_bigNode loadAt_node storeAt_node
theorem own_ints {w:World} {b:Nat} {v:Value} {outs:List Int} (h:w.ownsRow b 3 1 v outs.length (ints outs)):(v=.slice none 0 0∧outs=[])∨∃ g cap,v=.slice (some ⟨g,0,none⟩) outs.length cap∧outs.length≤cap∧cap≤maxLen∧∀ i k,outs[i]?=some k→w.cell? ⟨g,i,none⟩=some (.int .i64 k):=by
 rcases h.2 with ⟨h1,h2⟩|⟨g,cap,cur,hv,hb,hh,hn,hc,hs,ht⟩
 ·exact Or.inl ⟨h1,List.eq_nil_of_length_eq_zero h2⟩
 ·refine Or.inr ⟨g,cap,hv,hn,hc,fun i q hq=>?_⟩
  have hi:i < outs.length:=by
   rcases Nat.lt_or_ge i outs.length with h|h
   ·exact h
   ·rw [List.getElem?_eq_none h] at hq;cases hq
  simp only [World.cell?,hh]
  have:(cur.toList.take (outs.length * 1))[i]?=some (.int .i64 q):=by rw [ht];simp [ints,hq]
  rw [List.getElem?_take] at this
  simp [hi] at this
  simpa using this
theorem own_int_cell {w:World} {b g cap n:Nat} {outs:List Int} (h:w.ownsRow b 3 1 (.slice (some ⟨g,0,none⟩) n cap) outs.length (ints outs)) {i:Nat} {k:Int} (hk:outs[i]?=some k):w.cell? ⟨g,i,none⟩=some (.int .i64 k):=by
 rcases own_ints h with ⟨hv,_⟩|⟨g',cap',hv,_,_,hc⟩
 ·cases hv
 ·cases hv;exact hc i k hk
theorem rev_take {l:List Int} {j m:Nat} {k:Int} (hm:l.length=j+1+m) (hk:l[m]?=some k):l.reverse.take (j+1)=l.reverse.take j++[k]:=by
 rw [List.take_add_one,List.getElem?_reverse (by omega),show l.length - 1 - j=m by omega,hk];rfl
structure Lp1 (w:World) (p:Nat) (c:Sp.Cp) (ks:List Tr) (top:Int) (gn:Nat) (v i:Value) (wr:World):Prop where
 st:∃ (j:Nat) (v0:Value),v0=v∧i=.int .i64 j∧gn+j=ks.length∧LsAt w wr p v (Sp.comps (ks.take j) c).1 top (Sp.comps (ks.take j) c).2
structure Lp2 (w:World) (p:Nat) (v:Value) (f:List Int→Sp.Cp×Int→Sp.Cp×Int) (outs:List Int) (x0:Sp.Cp×Int) (top:Int) (gn:Nat) (o i:Value) (wr:World):Prop where
 st:∃ j:Nat,o=.int .i64 (f (outs.reverse.take j) x0).2∧i=.int .i64 ((outs.length:Int) - 1 - j)∧gn+j=outs.length∧LsAt w wr p v (f (outs.reverse.take j) x0).1 top outs
set_option maxRecDepth 100000 in
set_option maxHeartbeats 1000000 in
theorem bare_32 (p q:Nat) (a:Lab) (ks:List Tr) (l:Value) (qs:List Nat) (w0:World) (hq:NodeAt w0 q a l qs) (hqp:q < p) (hgl:∀ g,l.ownBlock=some g→g < p) (hqk:qs.length=ks.length) (hql:qs.length≤1000) (hk:a.kind=5)
  (hih:∀ (i q:Nat) (t:Tr),qs[i]?=some q→ks[i]?=some t→CompC 24 (Sp.comp t) p q w0):CompC 45 (Sp.bare ⟨a,ks⟩) p q w0:=by
 intro w c top hbel hcp hlen ht0 ht1
 have HG:Hid (Sp.bare ⟨a,ks⟩ c=Sp.chain (Sp.comps ks c).2.reverse ((Sp.comps ks c).1.add (Sp.nd 0 0 0))):=by
  show _=_
  unfold Sp.bare Sp.bareEnd Sp.open1
  simp [hk]
 rw [HG.out] at hlen ht1 ⊢
 clear HG
 have HLN:Hid ((Sp.comps ks c).1.ns.length+1+ks.length≤1000000):=by rw [Sp.chain_len,Sp.Cp.add_len] at hlen;simp [Sp.comps_outs] at hlen;exact hlen
 have HTD:Hid ((Sp.comps ks c).1.told≤1000000):=by rw [Sp.chain_told,Sp.Cp.add_told] at ht1;exact ht1
 have HT0:Hid (0≤c.told):=ht0
 obtain⟨X0,hX⟩:∃ X,X=Sp.comps ks c:=⟨_,rfl⟩
 rw [← hX] at HLN HTD ⊢
 have HX:Hid (X0=Sp.comps ks c):=hX
 have HXL:Hid (X0.2.length=ks.length):=by show _=_;rw [HX.out];exact Sp.comps_outs _ _
 clear hX
 have HK:Hid (NodeAt w q a l qs):=kid_facts hq hbel hqp hgl
 have HCP:Hid (CpAt w p c top):=hcp
 have HB0:Hid (Bel p w0 w):=hbel
 have HIH:Hid (∀ (i q:Nat) (t:Tr),qs[i]?=some q→ks[i]?=some t→CompC 24 (Sp.comp t) p q w0):=hih
 have hp:=hcp.lt
 have HQK:Hid (qs.length=ks.length):=hqk
 clear hcp hbel hih hq hlen ht1 ht0 hqk
 have q0:w.cell? ⟨q,0,none⟩=some (.int .u8 32):=by have h:=HK.out.pt.facts.1;rw [h];simp [psOf,kindOf,hk]
 have pz:=HK.out.pt.facts.fz
 have hq1:w.cell? ⟨q,1,none⟩=some l:=HK.out.pt.facts.2
 obtain⟨it,hi1,hi2,hi3,hi4⟩:=infoInt
 have HI:Hid (Tryz.prog.info? 3=some it∧it.zero=some (.int .i64 0)∧it.size=1∧it.bytes=8):=⟨hi1,hi2,hi3,hi4⟩
 clear hi1 hi2 hi3 hi4
 have HST:Hid (Lp1 w p c ks top ks.length (.slice none 0 0) (.int .i64 0) w):=⟨⟨0,_,rfl,rfl,by omega,by simp [Sp.comps_nil];exact LsAt.start HCP.out⟩⟩
 have HKq:Hid (∀ W:World,Bel p w W→W.cell? ⟨q,1,none⟩=some l):=fun W hW=>by
  have:=hW.block q hqp (by omega);unfold World.cell? at hq1 ⊢;simpa [this] using hq1
 rcases own_cells HK.out.own with ⟨hl,hqs⟩|⟨g,cap,hl,hc1,hc2,hcell⟩
 ·subst hl
  subst hqs
  obtain rfl:ks=[]:=List.eq_nil_of_length_eq_zero (by have:=HQK.out;simpa using this.symm)
  obtain rfl:X0=(c,[]):=by rw [HX.out,Sp.comps_nil]
  have hbn:=run_bigNode1
  have HLC:Hid (c.ns.length≤1000000):=by have:=HLN.out;show _≤_;simp at this;omega
  clear HST HX HXL HLN HTD HIH HKq
  go_enter Tryz.func45,Tryz.ntmps45
  go_wp2_with fail
  refine wp_loop_rounds 1 ?_
  rw [rounds_succ]
  go_wp2_with fail
  refine (add_cp p c top _ w HCP.out HLC.out).mono ?_
  rintro e w2 ⟨rfl,hc2,hb2⟩
  go_wp2_with fail
  refine wp_loop_rounds 1 ?_
  rw [rounds_succ]
  go_wp2_with fail
  go_ret
  exact⟨ret_int rfl,hc2,hb2⟩
 ·have hgp:g < p:=hgl g (by rw [hl];rfl)
  have HKg:Hid (∀ (W:World) (i q:Nat),Bel p w W→qs[i]?=some q→W.cell? ⟨g,i,none⟩=some (.pointer (some ⟨q,0,none⟩))):=fun W i q hW hi=>by
   have:=hW.block g hgp (by omega);have h2:=hcell i q hi;unfold World.cell? ptr at h2;unfold World.cell?;simpa [this] using h2
  subst hl
  clear hcell hgl
  go_enter Tryz.func45,Tryz.ntmps45
  go_wp2_with fail
  go_loopg [13,14] ks.length (fun gn v i wr=>Lp1 w p c ks top gn v i wr)
  case atStart=>exact HST.out
  case round=>
   clear HST q0 hq1
   obtain⟨j,v,rfl,rfl,hj,hls⟩:=hrel
   have HJ:Hid (gk+j=ks.length):=hj
   have r1:=HKq.out wr hls.bel
   have hpart:=Sp.comps_part ks j c
   rw [← HX.out] at hpart
   by_cases hlt:j < ks.length
   ·obtain⟨qj,hqj⟩:∃ q,qs[j]?=some q:=⟨_,List.getElem?_eq_getElem (by have:=HQK.out;omega)⟩
    obtain⟨tj,htj⟩:∃ t,ks[j]?=some t:=⟨_,List.getElem?_eq_getElem hlt⟩
    have hjq:j < qs.length:=by have:=HQK.out;omega
    have rg:=HKg.out wr j qj hls.bel hqj
    have hstep:=Sp.comps_step c htj
    have hpart1:=Sp.comps_part ks (j+1) c
    rw [hstep,← HX.out] at hpart1
    have HCALL:Hid (Calls Tryz.prog 24 #[.pointer (some ⟨p,0,none⟩),.pointer (some ⟨qj,0,none⟩)] wr (RCompOut p (Sp.comp tj (Sp.comps (ks.take j) c).1) top wr)):=
     HIH.out j qj tj hqj htj wr (Sp.comps (ks.take j) c).1 top (HB0.out.trans hls.bel) hls.cp (by have:=hpart1.1;have:=HLN.out;simp at *;omega) (by have:=hpart.2.2;have:=HT0.out;omega) (by have:=hpart1.2.1;have:=HTD.out;simp at *;omega)
    have HS:Hid (Sp.comps (ks.take (j+1)) c=((Sp.comp tj (Sp.comps (ks.take j) c).1).1,(Sp.comps (ks.take j) c).2++[(Sp.comp tj (Sp.comps (ks.take j) c).1).2])):=hstep
    have HLS:Hid (LsAt w wr p v (Sp.comps (ks.take j) c).1 top (Sp.comps (ks.take j) c).2):=hls
    have HOL:Hid ((Sp.comps (ks.take j) c).2.length=j):=by show _=_;rw [Sp.comps_outs];simp;omega
    clear hstep hpart1 hpart hls hqj htj hj
    generalize Sp.comps (ks.take j) c=X at *
    generalize Sp.comp tj X.1=Y at *
    obtain⟨fuel,rfl⟩:∃ n,gk=n+1:=⟨gk - 1,by have:=HJ.out;omega⟩
    go_wp2_with fail
    refine HCALL.out.mono ?_
    clear HCALL
    rintro e w2 ⟨rfl,hc2',hb2⟩
    have HL2:Hid (LsAt w w2 p v Y.1 top X.2):=HLS.out.node hp hb2 hc2'
    clear HLS hc2' hb2 r1 rg
    have hol:X.2.length≤1000:=by have:=HOL.out;omega
    go_wp2_with (first|(at_builtin;refine wpList_append_own_at _ rfl _ _ 33 rfl w.heap.size 3 it (.int .i64 0) 1 8 Tryz.underlying33 HI.out.1 HI.out.2.1 HI.out.2.2.1 HI.out.2.2.2 rfl (by decide) _ _ _ rfl (HL2.out.own.alloc _) ⟨w2.heap.size,0,none⟩ 1 1 [.int .i64 Y.2] rfl rfl ?c1 ?c2 ?c3 ?c4 ?c5 ?_)|fail)
    case c1=>exact cell_one_new _ _ _
    case c2=>intro u hu;simp at hu;subst hu;rfl
    case c3=>unfold maxLen;omega
    case c4=>omega
    case c5=>have:=HL2.out.bel.size;simp;omega
    intro v' w5 hown' hgrow hnil hloc
    have HL5:Hid (LsAt w w5 p v' Y.1 top (X.2++[Y.2])):=HL2.out.app hp (fun k hk=>Below.heap_alloc _ _ _ hk) (by simp) rfl rfl rfl hgrow hown' (by simpa using hloc)
    clear hown' hgrow hnil hloc
    go_wp2_with fail
    go_roundg fuel
    case measure=>omega
    case rel=>exact⟨⟨j+1,_,rfl,by go_num,by have:=HJ.out;omega,by rw [HS.out];exact HL5.out⟩⟩
   ·have hjk:ks.length≤j:=by omega
    have hjq:¬ j < qs.length:=by have:=HQK.out;omega
    have hj2:j≤1000:=by have:=HQK.out;have:=HJ.out;omega
    have HLS:Hid (LsAt w wr p v X0.1 top X0.2):=by rw [List.take_of_length_le (by omega),← HX.out] at hls;exact hls
    clear hls hpart
    have hbn:=run_bigNode1
    go_wp2_with fail
    refine (add_cp p X0.1 top _ wr HLS.out.cp (by have:=HLN.out;omega)).mono ?_
    rintro e w2 ⟨rfl,hc2',hb2⟩
    have HL2:Hid (LsAt w w2 p v (X0.1.add (Sp.nd 0 0 0)).1 top X0.2):=HLS.out.node hp hb2 hc2'
    clear HLS hc2' hb2 r1 hbn
    rcases own_ints HL2.out.own with ⟨hv,ho⟩|⟨g5,cap5,hv,h5,h6,_⟩
    ·subst hv
     go_wp2_with fail
     refine wp_loop_rounds 1 ?_
     rw [rounds_succ]
     go_wp2_with fail
     go_ret
     exact⟨ret_int (by rw [ho];rfl),by rw [ho];exact HL2.out.cp,HL2.out.bel⟩
    ·have hx5:X0.2.length≤1000:=by have:=HXL.out;have:=HQK.out;omega
     subst hv
     go_wp2_with fail
     go_loopg [16,17] X0.2.length (fun gn o i wr=>Lp2 w p (.slice (some ⟨g5,0,none⟩) X0.2.length cap5) Sp.chain X0.2 (X0.1.add (Sp.nd 0 0 0)) top gn o i wr)
     case atStart=>exact⟨⟨0,rfl,by go_num,by omega,HL2.out⟩⟩
     case round=>
      clear HL2
      obtain⟨j,rfl,rfl,hj,hls⟩:=hrel
      have HJ:Hid (gk+j=X0.2.length):=hj
      by_cases hlt:j < X0.2.length
      ·obtain⟨m,hm⟩:∃ m,X0.2.length=j+1+m:=⟨X0.2.length - (j+1),by omega⟩
       obtain⟨k,hk⟩:∃ k,X0.2[m]?=some k:=⟨_,List.getElem?_eq_getElem (by omega)⟩
       have hrev:=rev_take hm hk
       have HN:Hid (Sp.chain (X0.2.reverse.take (j+1)) (X0.1.add (Sp.nd 0 0 0))=(Sp.chain (X0.2.reverse.take j) (X0.1.add (Sp.nd 0 0 0))).1.add (Sp.nd 2 k (Sp.chain (X0.2.reverse.take j) (X0.1.add (Sp.nd 0 0 0))).2)):=by show _=_;rw [hrev,Sp.chain_snoc]
       have hi:((X0.2.length:Int) - 1 - j)=m:=by omega
       have hml:m < X0.2.length:=by omega
       have hm1:(m:Int)≤1000:=by have:=HXL.out;have:=HQK.out;omega
       have rk:=own_int_cell hls.own hk
       have HLS:Hid (LsAt w wr p (.slice (some ⟨g5,0,none⟩) X0.2.length cap5) (Sp.chain (X0.2.reverse.take j) (X0.1.add (Sp.nd 0 0 0))).1 top X0.2):=hls
       have HLC:Hid ((Sp.chain (X0.2.reverse.take j) (X0.1.add (Sp.nd 0 0 0))).1.ns.length≤1000000):=by show _≤_;rw [Sp.chain_len,Sp.Cp.add_len];have:=HLN.out;have:=HXL.out;simp;omega
       have HM:Hid (X0.2.length=j+1+m):=hm
       rw [hi]
       clear hi hm hk hrev hls hj
       generalize Sp.chain (X0.2.reverse.take j) (X0.1.add (Sp.nd 0 0 0))=z at *
       obtain⟨fuel,rfl⟩:∃ n,gk=n+1:=⟨gk - 1,by have:=HJ.out;omega⟩
       have hbn:=run_bigNode3
       go_wp2_with fail
       refine (add_cp p z.1 top _ wr HLS.out.cp HLC.out).mono ?_
       rintro e w3 ⟨rfl,hc3,hb3⟩
       have HL3:Hid (LsAt w w3 p (.slice (some ⟨g5,0,none⟩) X0.2.length cap5) (z.1.add (Sp.nd 2 k z.2)).1 top X0.2):=HLS.out.node hp hb3 hc3
       clear HLS hc3 hb3 rk hbn
       go_wp2_with fail
       go_roundg fuel
       case measure=>omega
       case rel=>exact⟨⟨j+1,by rw [HN.out],by have:=HM.out;exact int_eq (by omega),by have:=HJ.out;omega,by rw [HN.out];exact HL3.out⟩⟩
      ·have hjn:j=X0.2.length:=by omega
       have HE:Hid (Sp.chain X0.2.reverse (X0.1.add (Sp.nd 0 0 0))=Sp.chain (X0.2.reverse.take j) (X0.1.add (Sp.nd 0 0 0))):=by show _=_;rw [List.take_of_length_le (by simp;omega)]
       have hneg:((X0.2.length:Int) - 1 - j)=-1:=by omega
       rw [hneg]
       clear hneg
       go_wp2_with fail
       go_ret
       exact⟨ret_int (by rw [HE.out]),by rw [HE.out];exact hls.cp,hls.bel⟩
attribute [local go_sem ↓] build_bigNode loadAt_node storeAt_node
theorem Sp.pick_append:∀ (l m:List Int) (x:Sp.Cp×Int),Sp.pick (l++m) x=Sp.pick m (Sp.pick l x)
 | [],_,_=>rfl
 | k::r,m,x=>by rw [List.cons_append,Sp.pick,Sp.pick_append r m,Sp.pick]
set_option maxRecDepth 100000 in
set_option maxHeartbeats 1000000 in
theorem bare_124 (p q:Nat) (a:Lab) (ks:List Tr) (l:Value) (qs:List Nat) (w0:World) (hq:NodeAt w0 q a l qs) (hqp:q < p) (hgl:∀ g,l.ownBlock=some g→g < p) (hqk:qs.length=ks.length) (hql:qs.length≤1000) (hk:a.kind=4)
  (hih:∀ (i q:Nat) (t:Tr),qs[i]?=some q→ks[i]?=some t→CompC 24 (Sp.comp t) p q w0):CompC 45 (Sp.bare ⟨a,ks⟩) p q w0:=by
 intro w c top hbel hcp hlen ht0 ht1
 have HG:Hid (Sp.bare ⟨a,ks⟩ c=Sp.pick (Sp.comps ks c).2.reverse ((Sp.comps ks c).1,-1)):=by
  show _=_
  unfold Sp.bare Sp.bareEnd Sp.open1
  simp [hk]
 rw [HG.out] at hlen ht1 ⊢
 clear HG
 have HLP:Hid ((Sp.pick (Sp.comps ks c).2.reverse ((Sp.comps ks c).1,-1)).1.ns.length≤1000000):=hlen
 have HLN:Hid ((Sp.comps ks c).1.ns.length≤1000000):=by have h:=Sp.pick_len (Sp.comps ks c).2.reverse ((Sp.comps ks c).1,-1);show _≤_;simp at h;omega
 have HTD:Hid ((Sp.comps ks c).1.told≤1000000):=by rw [Sp.pick_told] at ht1;exact ht1
 have HT0:Hid (0≤c.told):=ht0
 obtain⟨X0,hX⟩:∃ X,X=Sp.comps ks c:=⟨_,rfl⟩
 rw [← hX] at HLN HLP HTD ⊢
 have HX:Hid (X0=Sp.comps ks c):=hX
 have HXL:Hid (X0.2.length=ks.length):=by show _=_;rw [HX.out];exact Sp.comps_outs _ _
 clear hX
 have HK:Hid (NodeAt w q a l qs):=kid_facts hq hbel hqp hgl
 have HCP:Hid (CpAt w p c top):=hcp
 have HB0:Hid (Bel p w0 w):=hbel
 have HIH:Hid (∀ (i q:Nat) (t:Tr),qs[i]?=some q→ks[i]?=some t→CompC 24 (Sp.comp t) p q w0):=hih
 have hp:=hcp.lt
 have HQK:Hid (qs.length=ks.length):=hqk
 clear hcp hbel hih hq hlen ht1 ht0 hqk
 have q0:w.cell? ⟨q,0,none⟩=some (.int .u8 124):=by have h:=HK.out.pt.facts.1;rw [h];simp [psOf,kindOf,hk]
 have pz:=HK.out.pt.facts.fz
 have hq1:w.cell? ⟨q,1,none⟩=some l:=HK.out.pt.facts.2
 obtain⟨it,hi1,hi2,hi3,hi4⟩:=infoInt
 have HI:Hid (Tryz.prog.info? 3=some it∧it.zero=some (.int .i64 0)∧it.size=1∧it.bytes=8):=⟨hi1,hi2,hi3,hi4⟩
 clear hi1 hi2 hi3 hi4
 have HST:Hid (Lp1 w p c ks top ks.length (.slice none 0 0) (.int .i64 0) w):=⟨⟨0,_,rfl,rfl,by omega,by simp [Sp.comps_nil];exact LsAt.start HCP.out⟩⟩
 have HKq:Hid (∀ W:World,Bel p w W→W.cell? ⟨q,1,none⟩=some l):=fun W hW=>by
  have:=hW.block q hqp (by omega);unfold World.cell? at hq1 ⊢;simpa [this] using hq1
 rcases own_cells HK.out.own with ⟨hl,hqs⟩|⟨g,cap,hl,hc1,hc2,hcell⟩
 ·subst hl
  subst hqs
  obtain rfl:ks=[]:=List.eq_nil_of_length_eq_zero (by have:=HQK.out;simpa using this.symm)
  obtain rfl:X0=(c,[]):=by rw [HX.out,Sp.comps_nil]
  clear HST HX HXL HLN HLP HTD HIH HKq
  go_enter Tryz.func45,Tryz.ntmps45
  go_wp2_with fail
  refine wp_loop_rounds 1 ?_
  rw [rounds_succ]
  go_wp2_with fail
  refine wp_loop_rounds 1 ?_
  rw [rounds_succ]
  go_wp2_with fail
  go_ret
  exact⟨ret_int rfl,HCP.out,Bel.refl _ _⟩
 ·have hgp:g < p:=hgl g (by rw [hl];rfl)
  have HKg:Hid (∀ (W:World) (i q:Nat),Bel p w W→qs[i]?=some q→W.cell? ⟨g,i,none⟩=some (.pointer (some ⟨q,0,none⟩))):=fun W i q hW hi=>by
   have:=hW.block g hgp (by omega);have h2:=hcell i q hi;unfold World.cell? ptr at h2;unfold World.cell?;simpa [this] using h2
  subst hl
  clear hcell hgl
  go_enter Tryz.func45,Tryz.ntmps45
  go_wp2_with fail
  go_loopg [9,10] ks.length (fun gn v i wr=>Lp1 w p c ks top gn v i wr)
  case atStart=>exact HST.out
  case round=>
   clear HST q0 hq1
   obtain⟨j,v,rfl,rfl,hj,hls⟩:=hrel
   have HJ:Hid (gk+j=ks.length):=hj
   have r1:=HKq.out wr hls.bel
   have hpart:=Sp.comps_part ks j c
   rw [← HX.out] at hpart
   by_cases hlt:j < ks.length
   ·obtain⟨qj,hqj⟩:∃ q,qs[j]?=some q:=⟨_,List.getElem?_eq_getElem (by have:=HQK.out;omega)⟩
    obtain⟨tj,htj⟩:∃ t,ks[j]?=some t:=⟨_,List.getElem?_eq_getElem hlt⟩
    have hjq:j < qs.length:=by have:=HQK.out;omega
    have rg:=HKg.out wr j qj hls.bel hqj
    have hstep:=Sp.comps_step c htj
    have hpart1:=Sp.comps_part ks (j+1) c
    rw [hstep,← HX.out] at hpart1
    have HCALL:Hid (Calls Tryz.prog 24 #[.pointer (some ⟨p,0,none⟩),.pointer (some ⟨qj,0,none⟩)] wr (RCompOut p (Sp.comp tj (Sp.comps (ks.take j) c).1) top wr)):=
     HIH.out j qj tj hqj htj wr (Sp.comps (ks.take j) c).1 top (HB0.out.trans hls.bel) hls.cp (by have:=hpart1.1;have:=HLN.out;simp at *;omega) (by have:=hpart.2.2;have:=HT0.out;omega) (by have:=hpart1.2.1;have:=HTD.out;simp at *;omega)
    have HS:Hid (Sp.comps (ks.take (j+1)) c=((Sp.comp tj (Sp.comps (ks.take j) c).1).1,(Sp.comps (ks.take j) c).2++[(Sp.comp tj (Sp.comps (ks.take j) c).1).2])):=hstep
    have HLS:Hid (LsAt w wr p v (Sp.comps (ks.take j) c).1 top (Sp.comps (ks.take j) c).2):=hls
    have HOL:Hid ((Sp.comps (ks.take j) c).2.length=j):=by show _=_;rw [Sp.comps_outs];simp;omega
    clear hstep hpart1 hpart hls hqj htj hj
    generalize Sp.comps (ks.take j) c=X at *
    generalize Sp.comp tj X.1=Y at *
    obtain⟨fuel,rfl⟩:∃ n,gk=n+1:=⟨gk - 1,by have:=HJ.out;omega⟩
    go_wp2_with fail
    refine HCALL.out.mono ?_
    clear HCALL
    rintro e w2 ⟨rfl,hc2',hb2⟩
    have HL2:Hid (LsAt w w2 p v Y.1 top X.2):=HLS.out.node hp hb2 hc2'
    clear HLS hc2' hb2 r1 rg
    have hol:X.2.length≤1000:=by have:=HOL.out;omega
    go_wp2_with (first|(at_builtin;refine wpList_append_own_at _ rfl _ _ 33 rfl w.heap.size 3 it (.int .i64 0) 1 8 Tryz.underlying33 HI.out.1 HI.out.2.1 HI.out.2.2.1 HI.out.2.2.2 rfl (by decide) _ _ _ rfl (HL2.out.own.alloc _) ⟨w2.heap.size,0,none⟩ 1 1 [.int .i64 Y.2] rfl rfl ?c1 ?c2 ?c3 ?c4 ?c5 ?_)|fail)
    case c1=>exact cell_one_new _ _ _
    case c2=>intro u hu;simp at hu;subst hu;rfl
    case c3=>unfold maxLen;omega
    case c4=>omega
    case c5=>have:=HL2.out.bel.size;simp;omega
    intro v' w5 hown' hgrow hnil hloc
    have HL5:Hid (LsAt w w5 p v' Y.1 top (X.2++[Y.2])):=HL2.out.app hp (fun k hk=>Below.heap_alloc _ _ _ hk) (by simp) rfl rfl rfl hgrow hown' (by simpa using hloc)
    clear hown' hgrow hnil hloc
    go_wp2_with fail
    go_roundg fuel
    case measure=>omega
    case rel=>exact⟨⟨j+1,_,rfl,by go_num,by have:=HJ.out;omega,by rw [HS.out];exact HL5.out⟩⟩
   ·have hjk:ks.length≤j:=by omega
    have hjq:¬ j < qs.length:=by have:=HQK.out;omega
    have hj2:j≤1000:=by have:=HQK.out;have:=HJ.out;omega
    have HLS:Hid (LsAt w wr p v X0.1 top X0.2):=by rw [List.take_of_length_le (by omega),← HX.out] at hls;exact hls
    clear hls hpart
    have HL2:Hid (LsAt w wr p v (X0.1,(-1:Int)).1 top X0.2):=HLS.out
    clear HLS
    rcases own_ints HL2.out.own with ⟨hv,ho⟩|⟨g5,cap5,hv,h5,h6,_⟩
    ·subst hv
     go_wp2_with fail
     refine wp_loop_rounds 1 ?_
     rw [rounds_succ]
     go_wp2_with fail
     go_ret
     exact⟨ret_int (by rw [ho];rfl),by rw [ho];exact HL2.out.cp,HL2.out.bel⟩
    ·have hx5:X0.2.length≤1000:=by have:=HXL.out;have:=HQK.out;omega
     subst hv
     go_wp2_with fail
     go_loopg [8,12] X0.2.length (fun gn o i wr=>Lp2 w p (.slice (some ⟨g5,0,none⟩) X0.2.length cap5) Sp.pick X0.2 (X0.1,-1) top gn o i wr)
     case atStart=>exact⟨⟨0,rfl,by go_num,by omega,HL2.out⟩⟩
     case round=>
      clear HL2
      obtain⟨j,rfl,rfl,hj,hls⟩:=hrel
      have HJ:Hid (gk+j=X0.2.length):=hj
      by_cases hlt:j < X0.2.length
      ·obtain⟨m,hm⟩:∃ m,X0.2.length=j+1+m:=⟨X0.2.length - (j+1),by omega⟩
       obtain⟨k,hk⟩:∃ k,X0.2[m]?=some k:=⟨_,List.getElem?_eq_getElem (by omega)⟩
       have hrev:=rev_take hm hk
       have HN:Hid (Sp.pick (X0.2.reverse.take (j+1)) (X0.1,-1)=(if (Sp.pick (X0.2.reverse.take j) (X0.1,-1)).2 < 0 then ((Sp.pick (X0.2.reverse.take j) (X0.1,-1)).1,k) else (Sp.pick (X0.2.reverse.take j) (X0.1,-1)).1.add (Sp.nd 3 k (Sp.pick (X0.2.reverse.take j) (X0.1,-1)).2))):=by show _=_;rw [hrev,Sp.pick_snoc]
       have hi:((X0.2.length:Int) - 1 - j)=m:=by omega
       have hml:m < X0.2.length:=by omega
       have hm1:(m:Int)≤1000:=by have:=HXL.out;have:=HQK.out;omega
       have rk:=own_int_cell hls.own hk
       have HLS:Hid (LsAt w wr p (.slice (some ⟨g5,0,none⟩) X0.2.length cap5) (Sp.pick (X0.2.reverse.take j) (X0.1,-1)).1 top X0.2):=hls
       have HLC:Hid ((Sp.pick (X0.2.reverse.take j) (X0.1,-1)).1.ns.length≤1000000):=by show _≤_;have h7:=HLP.out;rw [← List.take_append_drop j X0.2.reverse,Sp.pick_append] at h7;have:=Sp.pick_len (X0.2.reverse.drop j) (Sp.pick (X0.2.reverse.take j) (X0.1,-1));omega
       have HM:Hid (X0.2.length=j+1+m):=hm
       rw [hi]
       clear hi hm hk hrev hls hj
       generalize Sp.pick (X0.2.reverse.take j) (X0.1,-1)=z at *
       obtain⟨fuel,rfl⟩:∃ n,gk=n+1:=⟨gk - 1,by have:=HJ.out;omega⟩
       by_cases hz:z.2 < 0
       ·rw [if_pos hz] at HN
        go_wp2_with fail
        go_roundg fuel
        case measure=>omega
        case rel=>exact⟨⟨j+1,by rw [HN.out],by have:=HM.out;exact int_eq (by omega),by have:=HJ.out;omega,by rw [HN.out];exact HLS.out⟩⟩
       ·rw [if_neg hz] at HN
        have hbn:=run_bigNode3
        go_wp2_with fail
        refine (add_cp p z.1 top _ wr HLS.out.cp HLC.out).mono ?_
        rintro e w3 ⟨rfl,hc3,hb3⟩
        have HL3:Hid (LsAt w w3 p (.slice (some ⟨g5,0,none⟩) X0.2.length cap5) (z.1.add (Sp.nd 3 k z.2)).1 top X0.2):=HLS.out.node hp hb3 hc3
        clear HLS hc3 hb3 rk hbn
        go_wp2_with fail
        go_roundg fuel
        case measure=>omega
        case rel=>exact⟨⟨j+1,by rw [HN.out],by have:=HM.out;exact int_eq (by omega),by have:=HJ.out;omega,by rw [HN.out];exact HL3.out⟩⟩
      ·have hjn:j=X0.2.length:=by omega
       have HE:Hid (Sp.pick X0.2.reverse (X0.1,-1)=Sp.pick (X0.2.reverse.take j) (X0.1,-1)):=by show _=_;rw [List.take_of_length_le (by simp;omega)]
       have hneg:((X0.2.length:Int) - 1 - j)=-1:=by omega
       rw [hneg]
       clear hneg
       go_wp2_with fail
       go_ret
       exact⟨ret_int (by rw [HE.out]),by rw [HE.out];exact hls.cp,hls.bel⟩
def Ones:List Tr→Prop
 | []=>True
 | ⟨a,ks⟩::r=>(a.kind=3→ks.length=1)∧Ones ks∧Ones r
theorem comp_core (p q:Nat) (a:Lab) (ks:List Tr) (l:Value) (qs:List Nat) (w0:World) (hq:NodeAt w0 q a l qs) (hqp:q < p) (hgl:∀ g,l.ownBlock=some g→g < p) (ha:Sp.LabOK a) (hqk:qs.length=ks.length) (hkl:ks.length≤1000) (h1:a.kind=3→ks.length=1)
  (hih:∀ (i q:Nat) (t:Tr),qs[i]?=some q→ks[i]?=some t→CompC 24 (Sp.comp t) p q w0):CompC 24 (Sp.comp ⟨a,ks⟩) p q w0:=by
 refine node_core p q ⟨a,ks⟩ l w0 hq.pt hqp ha ?_
 rcases kind_cases ha.kind with ⟨hk,hk'⟩|⟨hk,hk'⟩|⟨hk,hk'⟩|⟨hk,hk'⟩
 ·exact bare_98 p q ⟨a,ks⟩ l w0 hq.pt hqp hk hk'
 ·have hl:=h1 hk
  match ks,qs,hqk,hl,hq,hih with
  | [t1],[q1],_,_,hq,hih=>
   cases hT:a.told with
   | true=>exact bare_40t p q q1 a t1 l w0 hq hqp hgl hk hT (hih 0 q1 t1 rfl rfl)
   | false=>exact bare_40n p q q1 a t1 l w0 hq hqp hgl hk hT (hih 0 q1 t1 rfl rfl)
 ·exact bare_124 p q a ks l qs w0 hq hqp hgl hqk (by omega) hk hih
 ·exact bare_32 p q a ks l qs w0 hq hqp hgl hqk (by omega) hk hih
theorem comp_all (p:Nat) (w0:World):∀ (ts:List Tr) (S:Nat→Prop) (ps:List Nat),PartsAt w0 S ps ts→(∀ k,S k→k < w0.heap.size→k < p)→Sp.TrsOK ts→Few ts→Ones ts→∀ (i q:Nat) (t:Tr),ps[i]?=some q→ts[i]?=some t→CompC 24 (Sp.comp t) p q w0
 | [],_,_,_,_,_,_,_,i,_,_,_,h=>by simp at h
 | ⟨a,ks⟩::r,S,[],h,_,_,_,_,_,_,_,_,_=>(PartsAt_no1 h).elim
 | ⟨a,ks⟩::r,S,p'::ps,h,hS,ho,hf,h1,0,q,t,e1,e2=>by
  simp at e1 e2;subst e1;subst e2
  rw [PartsAt_cons] at h
  rw [Sp.TrsOK] at ho
  rw [Few] at hf
  rw [Ones] at h1
  obtain⟨hs,⟨l,qs,h3,h4,h4',h5⟩,_⟩:=h
  have hl:=PartsAt.length _ _ h5
  exact comp_core p p' a ks l qs w0 ⟨h3,h4⟩ (hS p' hs h3.lt) (fun g hg=>hS g (h4' g hg) (ownBlock_lt h4 hg).1) ho.1 hl hf.1 h1.1
   (fun i q t hq ht=>comp_all p w0 ks _ qs h5 (fun k hk hl=>hS k hk.1 hl) ho.2.1 hf.2.1 h1.2.1 i q t hq ht)
 | ⟨a,ks⟩::r,S,p'::ps,h,hS,ho,hf,h1,i+1,q,t,e1,e2=>by
  rw [PartsAt_cons] at h
  rw [Sp.TrsOK] at ho
  rw [Few] at hf
  rw [Ones] at h1
  exact comp_all p w0 r S ps h.2.2 hS ho.2.2 hf.2.2 h1.2.2 i q t (by simpa using e1) (by simpa using e2)
theorem Sp.wrap_most {a:Lab} (ha:Sp.LabOK a) (x:Sp.Cp×Int):(Sp.wrap a x).1.ns.length≤x.1.ns.length+42:=by
 have h1:=ha.min1
 have h2:=ha.max1
 have h3:=ha.min0
 unfold Sp.wrap;split
 ·omega
 ·rw [Sp.reps_len];unfold Sp.wrap0;split
  ·rw [Sp.Cp.add_len];omega
  ·rw [Sp.reps_len,Sp.Cp.add_len];omega
theorem Sp.pick_most:∀ (l:List Int) (x:Sp.Cp×Int),(Sp.pick l x).1.ns.length≤x.1.ns.length+l.length
 | [],_=>Nat.le_refl _
 | k::r,x=>by
  rw [Sp.pick]
  have:=Sp.pick_most r (if x.2 < 0 then (x.1,k) else x.1.add (Sp.nd 3 k x.2))
  split at this
  ·rename_i h;rw [if_pos h];simp at this ⊢;omega
  ·rename_i h;rw [if_neg h];rw [Sp.Cp.add_len] at this;simp;omega
theorem Sp.bareEnd_most (a:Lab) (c:Sp.Cp) (x:Sp.Cp×List Int) (h:c.ns.length≤x.1.ns.length):(Sp.bareEnd a c x).1.ns.length≤x.1.ns.length+1+x.2.length:=by
 unfold Sp.bareEnd;repeat' split
 ·rw [Sp.Cp.add_len];omega
 ·rw [Sp.Cp.add_len];omega
 ·have:=Sp.pick_most x.2.reverse (x.1,-1);simp at this;omega
 ·rw [Sp.chain_len,Sp.Cp.add_len];simp
theorem Sp.comps_most:∀ (l:List Tr) (c:Sp.Cp),Sp.TrsOK l→(Sp.comps l c).1.ns.length+l.length≤c.ns.length+44 * Sp.nodes l
 | [],c,_=>by rw [Sp.comps_nil];simp
 | ⟨a,ks⟩::r,c,ho=>by
  rw [Sp.TrsOK] at ho
  rw [Sp.comps_cons,Sp.nodes]
  have h1:=Sp.comps_most ks (Sp.open1 a c) ho.2.1
  have h0:=Sp.comps_len ks (Sp.open1 a c)
  rw [Sp.open1_len] at h1 h0
  have h3:=Sp.bareEnd_most a c (Sp.comps ks (Sp.open1 a c)) h0
  have h4:(Sp.comp ⟨a,ks⟩ c).1.ns.length≤(Sp.bareEnd a c (Sp.comps ks (Sp.open1 a c))).1.ns.length+42:=Sp.wrap_most ho.1 _
  have h5:=Sp.comps_most r (Sp.comp ⟨a,ks⟩ c).1 ho.2.2
  rw [Sp.comps_outs] at h3
  show (Sp.comps r _).1.ns.length+(r.length+1)≤_
  omega
theorem Sp.open1_most (a:Lab) (c:Sp.Cp):(Sp.open1 a c).told≤c.told+1:=by
 unfold Sp.open1;split
 ·exact Int.le_refl _
 ·omega
theorem Sp.bareEnd_told' (a:Lab) (c:Sp.Cp) (x:Sp.Cp×List Int) (h:c.told≤x.1.told):(Sp.bareEnd a c x).1.told≤x.1.told:=by
 unfold Sp.bareEnd;repeat' split
 ·rw [Sp.Cp.add_told];omega
 ·rw [Sp.Cp.add_told];omega
 ·rw [Sp.pick_told];exact Int.le_refl _
 ·rw [Sp.chain_told,Sp.Cp.add_told];exact Int.le_refl _
theorem Sp.comps_told_most:∀ (l:List Tr) (c:Sp.Cp),(Sp.comps l c).1.told≤c.told+(Sp.nodes l:Int)
 | [],c=>by rw [Sp.comps_nil];simp [Sp.nodes]
 | ⟨a,ks⟩::r,c=>by
  rw [Sp.comps_cons,Sp.nodes]
  have h0:=Sp.comps_told ks (Sp.open1 a c)
  have h1:=Sp.comps_told_most ks (Sp.open1 a c)
  have h2:=Sp.open1_told a c
  have h2':=Sp.open1_most a c
  have h3:=Sp.bareEnd_told' a c (Sp.comps ks (Sp.open1 a c)) (by omega)
  have h4:(Sp.comp ⟨a,ks⟩ c).1.told=(Sp.bareEnd a c (Sp.comps ks (Sp.open1 a c))).1.told:=by unfold Sp.comp Sp.bare;rw [Sp.wrap_told]
  have h5:=Sp.comps_told_most r (Sp.comp ⟨a,ks⟩ c).1
  show (Sp.comps r _).1.told≤_
  omega
theorem Sp.comp_most {t:Tr} (ho:Sp.TrsOK [t]) (hn:Sp.nodes [t]≤1000):(Sp.comp t ⟨[],0⟩).1.ns.length≤44000∧(Sp.comp t ⟨[],0⟩).1.told≤1000:=by
 have h1:=Sp.comps_most [t] ⟨[],0⟩ ho
 have h2:=Sp.comps_told_most [t] ⟨[],0⟩
 rw [Sp.comps_cons,Sp.comps_nil] at h1 h2
 simp at h1 h2
 omega
end Go.Proofs.YtcpfpnjkfahjcaaGreat
