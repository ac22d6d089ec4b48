import Derived.Test.YtcpfpnjkfahjcaaGreatH50
set_option linter.unusedSimpArgs false
set_option linter.unusedVariables false
namespace Go.Proofs.YtcpfpnjkfahjcaaGreat
open Go.RowKit
theorem lInfoTw:∃ i,Tryz.prog.info? 55=some i∧i.zero=some (.agg #[.pointer none,.pointer none])∧i.size=2∧i.bytes=16:=by
 have h:(Tryz.prog.info? 55).map (fun i=>(i.zero,i.size,i.bytes))=some (some (.agg #[.pointer none,.pointer none]),2,16):=by kernel_rfl
 cases hi:Tryz.prog.info? 55 with
 | none=>rw [hi] at h;cases h
 | some i=>
  rw [hi] at h
  simp only [Option.map_some,Option.some.injEq,Prod.mk.injEq] at h
  exact⟨i,rfl,h.1,h.2.1,h.2.2⟩
theorem lInfoPr:∃ i,Tryz.prog.info? 51=some i∧i.zero=some (.agg #[.pointer none,.pointer none])∧i.size=2∧i.bytes=16:=by
 have h:(Tryz.prog.info? 51).map (fun i=>(i.zero,i.size,i.bytes))=some (some (.agg #[.pointer none,.pointer none]),2,16):=by kernel_rfl
 cases hi:Tryz.prog.info? 51 with
 | none=>rw [hi] at h;cases h
 | some i=>
  rw [hi] at h
  simp only [Option.map_some,Option.some.injEq,Prod.mk.injEq] at h
  exact⟨i,rfl,h.1,h.2.1,h.2.2⟩
theorem cells_two (w:World) (a b:Value) (T:TypeId):∀ (j:Nat) (u:Value),([a,b]:List Value)[j]?=some u→(w.alloc (.cells #[a,b] T)).cell? ((⟨w.heap.size,0,none⟩:Addr).add j)=some u:=by
 intro j u h
 have hb:(w.alloc (.cells #[a,b] T)).heap[w.heap.size]?=some (.cells #[a,b] T (0,0)):=heap_new rfl
 have e0:(⟨w.heap.size,0,none⟩:Addr).add j=⟨w.heap.size,j,none⟩:=by simp [Addr.add];omega
 rw [e0,World.cell?,hb]
 show (#[a,b]:Array Value)[j]?=some u
 rw [← Array.getElem?_toList]
 exact h
set_option maxRecDepth 8000 in
set_option maxHeartbeats 6400000 in
theorem lAll_any (ad:Option Addr) (b0 off len cap:Nat) (f:Nat→Opv) (w:World) (hlen:len≤1048576) (htot:tot f len≤1048576) (hlc:len≤cap) (ha:0 < len→ad=some ⟨b0,off,none⟩) (hb0:0 < len→b0 < w.heap.size) (hi64:∀ j,j < len→-9223372036854775808≤(f j).s∧(f j).s≤9223372036854775807)
  (hcs:∀ j,j < len→w.cell? ⟨b0,off+j * 4,none⟩=some (.int .i64 (f j).k)∧w.cell? ⟨b0,off+j * 4+1,none⟩=some (.int .i64 (f j).s)∧w.cell? ⟨b0,off+j * 4+2,none⟩=some (.int .i64 (f j).n)∧w.cell? ⟨b0,off+j * 4+3,none⟩=some (.string (f j).t)) :
  Calls Tryz.prog 4 #[.slice ad len cap] w fun e w'=>e=.returned (.bool true)∧Upd [] w w':=by
 have HA:Hid (0 < len→ad=some ⟨b0,off,none⟩):=ha
 have HB0:Hid (0 < len→b0 < w.heap.size):=hb0
 have HI:Hid (∀ j,j < len→-9223372036854775808≤(f j).s∧(f j).s≤9223372036854775807):=hi64
 have HCS:Hid (∀ j,j < len→w.cell? ⟨b0,off+j * 4,none⟩=some (.int .i64 (f j).k)∧w.cell? ⟨b0,off+j * 4+1,none⟩=some (.int .i64 (f j).s)∧w.cell? ⟨b0,off+j * 4+2,none⟩=some (.int .i64 (f j).n)∧w.cell? ⟨b0,off+j * 4+3,none⟩=some (.string (f j).t)):=hcs
 clear ha hb0 hi64 hcs
 go_enter Tryz.func4,Tryz.ntmps4
 go_wp2_with fail
 refine (streams_any w).mono ?_
 rintro e w1 ⟨rfl,u1⟩
 have U1:Hid (Upd [] w w1):=u1
 clear u1
 have ST:Hid (AlSt w1 (w1.alloc (.cells #[.int .i64 0,.slice none 0 0,.slice none 0 0,.slice none 0 0,.slice none 0 0] 36)) w1.heap.size f 0 (.slice none 0 0) (.slice none 0 0) [] [] 0 0 0 (.slice none 0 0) (.slice none 0 0) (.slice none 0 0) (.slice none 0 0) [] []):=AlSt.new w1 f
 go_wp2_with fail
 generalize hb:w1.heap.size=b at *
 go_loopg [4,5,7] len (fun gn va vp vi wr=>AlInv w1 b f len gn va vp vi wr)
 case atStart=>exact⟨0,[],[],0,0,0,_,_,_,_,[],[],rfl,by omega,ST.out⟩
 case round=>
  obtain⟨c,l,ps,kS,kR,n,vS,vN,vR,vQ,es,rs,hvi,hcg,H⟩:=hrel.st
  subst hvi
  have GH:Hid (AlSt w1 wr b f c u4 u5 l ps kS kR n vS vN vR vQ es rs):=H
  have UW:Hid (Upd [] w wr):=U1.out.trans H.up
  obtain⟨aa,ca,hva,hca⟩:=row_form H.ra
  obtain⟨ap,cp,hvp,hcp⟩:=row_form H.rp
  subst hva hvp
  have hla:l.length≤1048576:=by have:=H.la;omega
  have hlp:ps.length≤1048576:=by have:=H.lp;omega
  clear H hrel
  by_cases hlt:c < len
  ·have hlt':(c:Int) < len:=by omega
   obtain⟨gm,hgm⟩:∃ x,gk=x+1:=⟨gk - 1,by omega⟩
   have had:=HA.out (by omega)
   subst had
   obtain⟨d0,d1,d2,d3⟩:=HCS.out c hlt
   have hbw:=HB0.out (by omega)
   have c0:wr.cell? ⟨b0,off+c * 4,none⟩=some (.int .i64 (f c).k):=(cell_eq (UW.out.block b0 hbw (by simp)) _).trans d0
   have c1:wr.cell? ⟨b0,off+c * 4+1,none⟩=some (.int .i64 (f c).s):=(cell_eq (UW.out.block b0 hbw (by simp)) _).trans d1
   have c2:wr.cell? ⟨b0,off+c * 4+2,none⟩=some (.int .i64 (f c).n):=(cell_eq (UW.out.block b0 hbw (by simp)) _).trans d2
   have c3:wr.cell? ⟨b0,off+c * 4+3,none⟩=some (.string (f c).t):=(cell_eq (UW.out.block b0 hbw (by simp)) _).trans d3
   have htc:tot f c+(f c).t.size≤1048576:=Nat.le_trans (tot_mono f (show c+1≤len by omega)) htot
   have hs64:=HI.out c hlt
   clear d0 d1 d2 d3
   obtain⟨kk,hkk⟩:∃ x,x=(f c).k:=⟨_,rfl⟩
   obtain⟨ks,hks⟩:∃ x,x=(f c).s:=⟨_,rfl⟩
   obtain⟨kn,hkn⟩:∃ x,x=(f c).n:=⟨_,rfl⟩
   obtain⟨tx,htx⟩:∃ x,x=(f c).t:=⟨_,rfl⟩
   rw [← hkk] at c0
   rw [← hks] at c1 hs64
   rw [← hkn] at c2
   rw [← htx] at c3 htc
   have HTX:Hid (tx=(f c).t):=htx
   clear hkk hks hkn htx
   have GX:Hid (AlSt w1 (wr.alloc (.cells #[.int .i64 kk,.int .i64 ks,.int .i64 kn,.string tx] 49)) b f c (.slice aa l.length ca) (.slice ap ps.length cp) l ps kS kR n vS vN vR vQ es rs):=GH.out.upd0 (Upd.alloc (Upd.refl _ _) _)
   have HX:Hid ((wr.alloc (.cells #[.int .i64 kk,.int .i64 ks,.int .i64 kn,.string tx] 49)).heap[wr.heap.size]?=some (.cells #[.int .i64 kk,.int .i64 ks,.int .i64 kn,.string tx] 49 (0,0))):=heap_new rfl
   by_cases k1:kk=1
   ·subst k1
    as_aux_lemma=>
     go_wp2_with fail
     generalize hX:wr.heap.size=X at *
     generalize wr.alloc (.cells #[.int .i64 1,.int .i64 ks,.int .i64 kn,.string tx] 49)=wx at *
     cases hr:Sp.read tx with
     | error ee=>
      obtain⟨e1,a1⟩:=ee
      have HR:Hid (Sp.read tx=.error (e1,a1)):=hr
      clear hr
      refine (sComp_no tx e1 a1 _ HR.out).mono ?_
      rintro e w2 ⟨rfl,u2⟩
      have G2:Hid (AlSt w1 w2 b f c (.slice aa l.length ca) (.slice ap ps.length cp) l ps kS kR n vS vN vR vQ es rs):=GX.out.upd0 u2
      have x3:w2.cell? ⟨X,3,none⟩=some (.string tx):=by
       have h:=(u2.block X (lt_of_heap HX.out) (by simp)).trans HX.out
       rw [World.cell?,h];rfl
      clear u2
      go_wp2_with fail
      refine (rComp_no tx e1 a1 _ HR.out).mono ?_
      rintro e w3 ⟨rfl,u3⟩
      have GN:Hid (AlSt w1 w3 b f (c+1) (.slice aa l.length ca) (.slice ap ps.length cp) l ps kS kR n vS vN vR vQ es rs):=(G2.out.upd0 u3).next
      clear u3 x3
      go_wp2_with fail
      refine (bStill_any w1.heap.size _ b _ _ _ _ _ _ _ _ _ GN.out.bk (by have:=GN.out.hS;have:=GN.out.hR;have:=tot_mono f (show c+1≤len by omega);omega) (by have:=GN.out.hR;omega)).mono ?_
      rintro e w9 ⟨rfl,u9⟩
      have RL:Hid (AlInv w1 b f len gm (.slice aa l.length ca) (.slice ap ps.length cp) (.int .i64 (c+1:Nat)) w9):=⟨c+1,_,_,_,_,_,_,_,_,_,_,_,rfl,by omega,GN.out.upd0 u9⟩
      clear u9
      go_wp2_with fail
      go_roundg gm
      case measure=>omega
      case rel=>exact RL.out
     | ok tn=>
      obtain⟨t,tm⟩:=tn
      have HR:Hid (Sp.read tx=.ok (t,tm)):=hr
      clear hr
      refine (sComp_yes tx t tm _ HR.out).mono ?_
      rintro e w2 ⟨p,rfl,hp,P2,u2⟩
      have G2:Hid (AlSt w1 w2 b f c (.slice aa l.length ca) (.slice ap ps.length cp) l ps kS kR n vS vN vR vQ es rs):=GX.out.upd0 u2
      have HP2:Hid (PatAt w2 p t tm.toNat):=P2
      have x3:w2.cell? ⟨X,3,none⟩=some (.string tx):=by
       have h:=(u2.block X (lt_of_heap HX.out) (by simp)).trans HX.out
       rw [World.cell?,h];rfl
      clear u2 P2 hp
      go_wp2_with fail
      refine (rComp_yes tx t tm _ HR.out).mono ?_
      rintro e w3 ⟨q,rfl,hq,Q3,u3⟩
      have G3:Hid (AlSt w1 w3 b f c (.slice aa l.length ca) (.slice ap ps.length cp) l ps kS kR n vS vN vR vQ es rs):=G2.out.upd0 u3
      have HP3:Hid (PatAt w3 p t tm.toNat∧RfPat w3 q tx t tm.toNat):=⟨HP2.out.upd u3,Q3⟩
      have G4:Hid (AlSt w1 (w3.alloc (.cells #[.pointer (some ⟨p,0,none⟩),.pointer (some ⟨q,0,none⟩)] 51)) b f c (.slice aa l.length ca) (.slice ap ps.length cp) l ps kS kR n vS vN vR vQ es rs):=G3.out.upd0 (Upd.alloc (Upd.refl _ _) _)
      have HP4:Hid (PatAt (w3.alloc (.cells #[.pointer (some ⟨p,0,none⟩),.pointer (some ⟨q,0,none⟩)] 51)) p t tm.toNat∧RfPat (w3.alloc (.cells #[.pointer (some ⟨p,0,none⟩),.pointer (some ⟨q,0,none⟩)] 51)) q tx t tm.toNat):=⟨HP3.out.1.upd (Upd.alloc (Upd.refl _ _) _),HP3.out.2.upd (Upd.alloc (Upd.refl _ _) _)⟩
      obtain⟨it,hi1,hi2,hi3,hi4⟩:=lInfoPr
      have HIT:Hid (Tryz.prog.info? 51=some it∧it.zero=some (.agg #[.pointer none,.pointer none])∧it.size=2∧it.bytes=16):=⟨hi1,hi2,hi3,hi4⟩
      have HSB:Hid (w1.heap.size≤(w3.alloc (.cells #[.pointer (some ⟨p,0,none⟩),.pointer (some ⟨q,0,none⟩)] 51)).heap.size):=G4.out.up.size
      clear u3 Q3 hq x3 hi1 hi2 hi3 hi4
      go_wp2_with (first|(at_builtin;refine wpList_append_own_at _ rfl _ _ 47 rfl w1.heap.size 51 it (.agg #[.pointer none,.pointer none]) 2 16 Tryz.underlying47 HIT.out.1 HIT.out.2.1 HIT.out.2.2.1 HIT.out.2.2.2 rfl (by decide) _ _ _ rfl G4.out.rp ⟨w3.heap.size,0,none⟩ 1 1 [.pointer (some ⟨p,0,none⟩),.pointer (some ⟨q,0,none⟩)] rfl rfl (by exact cells_two _ _ _ _) (by intro u hu;simp at hu;rcases hu with rfl|rfl<;>rfl) (by unfold maxLen;omega) (by omega) HSB.out ?_)|fail)
      intro vp' w5 hown' hgrow hnil hloc
      obtain⟨ap',cp',hvp',_⟩:=row_form hown'
      subst hvp'
      have GN:Hid (AlSt w1 w5 b f (c+1) (.slice aa l.length ca) (.slice ap' (ps.length+1) cp') l (ps++[⟨p,q,tx,t,tm.toNat⟩]) kS kR n vS vN vR vQ es rs):=G4.out.moreP ⟨p,q,tx,t,tm.toNat⟩ HP4.out (by rw [hb];exact hown') hgrow
      clear hown' hgrow hnil hloc
      go_wp2_with fail
      refine (bStill_any w1.heap.size _ b _ _ _ _ _ _ _ _ _ GN.out.bk (by have:=GN.out.hS;have:=GN.out.hR;have:=tot_mono f (show c+1≤len by omega);omega) (by have:=GN.out.hR;omega)).mono ?_
      rintro e w9 ⟨rfl,u9⟩
      have RL:Hid (AlInv w1 b f len gm (.slice aa l.length ca) (.slice ap' (ps.length+1) cp') (.int .i64 (c+1:Nat)) w9):=⟨c+1,_,_,_,_,_,_,_,_,_,_,_,rfl,by omega,GN.out.upd0 u9⟩
      clear u9
      go_wp2_with fail
      go_roundg gm
      case measure=>omega
      case rel=>exact RL.out
   have b1:(kk == 1)=false:=by simpa using k1
   by_cases k2:kk=2
   ·subst k2
    as_aux_lemma=>
     have G4:Hid (AlSt w1 ((wr.alloc (.cells #[.int .i64 2,.int .i64 ks,.int .i64 kn,.string tx] 49)).alloc (.cells #[.pointer none,.pointer none] 55)) b f c (.slice aa l.length ca) (.slice ap ps.length cp) l ps kS kR n vS vN vR vQ es rs):=GX.out.upd0 (Upd.alloc (Upd.refl _ _) _)
     have HZ4:Hid ((wr.alloc (.cells #[.int .i64 2,.int .i64 ks,.int .i64 kn,.string tx] 49)).heap.size=wr.heap.size+1):=by show (wr.heap.push _).size=_;simp
     have HC4:Hid (∀ (j:Nat) (u:Value),([.pointer none,.pointer none]:List Value)[j]?=some u→((wr.alloc (.cells #[.int .i64 2,.int .i64 ks,.int .i64 kn,.string tx] 49)).alloc (.cells #[.pointer none,.pointer none] 55)).cell? ((⟨wr.heap.size+1,0,none⟩:Addr).add j)=some u):=by
      have h:=cells_two (wr.alloc (.cells #[.int .i64 2,.int .i64 ks,.int .i64 kn,.string tx] 49)) (.pointer none) (.pointer none) 55
      rw [HZ4.out] at h;exact h
     have HSB:Hid (w1.heap.size≤((wr.alloc (.cells #[.int .i64 2,.int .i64 ks,.int .i64 kn,.string tx] 49)).alloc (.cells #[.pointer none,.pointer none] 55)).heap.size):=G4.out.up.size
     obtain⟨it,hi1,hi2,hi3,hi4⟩:=lInfoTw
     have HIT:Hid (Tryz.prog.info? 55=some it∧it.zero=some (.agg #[.pointer none,.pointer none])∧it.size=2∧it.bytes=16):=⟨hi1,hi2,hi3,hi4⟩
     clear hi1 hi2 hi3 hi4
     go_wp2_with (first|(at_builtin;refine wpList_append_own_at _ rfl _ _ 46 rfl w1.heap.size 55 it (.agg #[.pointer none,.pointer none]) 2 16 Tryz.underlying46 HIT.out.1 HIT.out.2.1 HIT.out.2.2.1 HIT.out.2.2.2 rfl (by decide) _ _ _ rfl G4.out.ra ⟨wr.heap.size+1,0,none⟩ 1 1 [.pointer none,.pointer none] rfl rfl HC4.out (by intro u hu;simp at hu;subst hu;rfl) (by unfold maxLen;omega) (by omega) HSB.out ?_)|fail)
     intro va' w5 hown' hgrow hnil hloc
     obtain⟨aa',ca',hva',_⟩:=row_form hown'
     subst hva'
     have GN:Hid (AlSt w1 w5 b f (c+1) (.slice aa' (l.length+1) ca') (.slice ap ps.length cp) (l++[none]) ps kS kR n vS vN vR vQ es rs):=G4.out.moreA none trivial (fun i o' _ k hk=>by cases hk) (fun x hx=>by cases hx) (by rw [hb];exact hown') hgrow
     clear hown' hgrow hnil hloc
     go_wp2_with fail
     refine (bStill_any w1.heap.size _ b _ _ _ _ _ _ _ _ _ GN.out.bk (by have:=GN.out.hS;have:=GN.out.hR;have:=tot_mono f (show c+1≤len by omega);omega) (by have:=GN.out.hR;omega)).mono ?_
     rintro e w9 ⟨rfl,u9⟩
     have RL:Hid (AlInv w1 b f len gm (.slice aa' (l.length+1) ca') (.slice ap ps.length cp) (.int .i64 (c+1:Nat)) w9):=⟨c+1,_,_,_,_,_,_,_,_,_,_,_,rfl,by omega,GN.out.upd0 u9⟩
     clear u9
     go_wp2_with fail
     go_roundg gm
     case measure=>omega
     case rel=>exact RL.out
   have b2:(kk == 2)=false:=by simpa using k2
   by_cases k8:kk=8
   ·subst k8
    as_aux_lemma=>
     go_wp2_with fail
     generalize hX:wr.heap.size=X at *
     generalize wr.alloc (.cells #[.int .i64 8,.int .i64 ks,.int .i64 kn,.string tx] 49)=wx at *
     refine (nobody_any tx kn _).mono ?_
     rintro e w2 ⟨rfl,u2⟩
     have GN:Hid (AlSt w1 w2 b f (c+1) (.slice aa l.length ca) (.slice ap ps.length cp) l ps kS kR n vS vN vR vQ es rs):=(GX.out.upd0 u2).next
     clear u2
     go_wp2_with fail
     refine (bStill_any w1.heap.size _ b _ _ _ _ _ _ _ _ _ GN.out.bk (by have:=GN.out.hS;have:=GN.out.hR;have:=tot_mono f (show c+1≤len by omega);omega) (by have:=GN.out.hR;omega)).mono ?_
     rintro e w9 ⟨rfl,u9⟩
     have RL:Hid (AlInv w1 b f len gm (.slice aa l.length ca) (.slice ap ps.length cp) (.int .i64 (c+1:Nat)) w9):=⟨c+1,_,_,_,_,_,_,_,_,_,_,_,rfl,by omega,GN.out.upd0 u9⟩
     clear u9
     go_wp2_with fail
     go_roundg gm
     case measure=>omega
     case rel=>exact RL.out
   have b8:(kk == 8)=false:=by simpa using k8
   by_cases hneg:kk≤0∨9≤kk
   ·have b3:(kk == 3)=false:=by simp;omega
    have b7:(kk == 7)=false:=by simp;omega
    rcases hneg with hneg|hneg
    ·have n4:¬ (4≤kk):=by omega
     as_aux_lemma=>
      go_wp2_with fail
      generalize hX:wr.heap.size=X at *
      generalize wr.alloc (.cells #[.int .i64 kk,.int .i64 ks,.int .i64 kn,.string tx] 49)=wx at *
      have GN:Hid (AlSt w1 wx b f (c+1) (.slice aa l.length ca) (.slice ap ps.length cp) l ps kS kR n vS vN vR vQ es rs):=GX.out.next
      refine (bStill_any w1.heap.size _ b _ _ _ _ _ _ _ _ _ GN.out.bk (by have:=GN.out.hS;have:=GN.out.hR;have:=tot_mono f (show c+1≤len by omega);omega) (by have:=GN.out.hR;omega)).mono ?_
      rintro e w9 ⟨rfl,u9⟩
      have RL:Hid (AlInv w1 b f len gm (.slice aa l.length ca) (.slice ap ps.length cp) (.int .i64 (c+1:Nat)) w9):=⟨c+1,_,_,_,_,_,_,_,_,_,_,_,rfl,by omega,GN.out.upd0 u9⟩
      clear u9
      go_wp2_with fail
      go_roundg gm
      case measure=>omega
      case rel=>exact RL.out
    ·have n4:4≤kk:=by omega
     have n6:¬ (kk≤6):=by omega
     as_aux_lemma=>
      go_wp2_with fail
      generalize hX:wr.heap.size=X at *
      generalize wr.alloc (.cells #[.int .i64 kk,.int .i64 ks,.int .i64 kn,.string tx] 49)=wx at *
      have GN:Hid (AlSt w1 wx b f (c+1) (.slice aa l.length ca) (.slice ap ps.length cp) l ps kS kR n vS vN vR vQ es rs):=GX.out.next
      refine (bStill_any w1.heap.size _ b _ _ _ _ _ _ _ _ _ GN.out.bk (by have:=GN.out.hS;have:=GN.out.hR;have:=tot_mono f (show c+1≤len by omega);omega) (by have:=GN.out.hR;omega)).mono ?_
      rintro e w9 ⟨rfl,u9⟩
      have RL:Hid (AlInv w1 b f len gm (.slice aa l.length ca) (.slice ap ps.length cp) (.int .i64 (c+1:Nat)) w9):=⟨c+1,_,_,_,_,_,_,_,_,_,_,_,rfl,by omega,GN.out.upd0 u9⟩
      clear u9
      go_wp2_with fail
      go_roundg gm
      case measure=>omega
      case rel=>exact RL.out
   by_cases k3:kk=3
   ·subst k3
    by_cases hp0:0 < ps.length
    ·have hp0':(0:Int) < ps.length:=by omega
     as_aux_lemma=>
      obtain⟨g,hg⟩:=GX.out.someP hp0
      subst hg
      have hpk:=pickN_lt ks hp0
      obtain⟨k,hk⟩:∃ k,k=pickN ks ps.length:=⟨_,rfl⟩
      rw [← hk] at hpk
      have HK:Hid (pickN ks ps.length=k):=hk.symm
      clear hk
      have PK:Hid (∀ w2:World,Calls Tryz.prog 16 #[.int .i64 ks,.int .i64 ps.length] w2 fun e w'=>e=.returned (.int .i64 k)∧w'=w2):=fun w2=>by have h:=pick_is ks ps.length w2 hs64 ⟨hp0,by omega⟩;rw [HK.out] at h;exact h
      go_wp2_with fail
      generalize hX:wr.heap.size=X at *
      generalize wr.alloc (.cells #[.int .i64 3,.int .i64 ks,.int .i64 kn,.string tx] 49)=wx at *
      obtain⟨x,z0,z1,hpx⟩:=GX.out.getP k hpk
      have HPX:Hid (PatAt wx x.p x.t x.n∧RfPat wx x.q x.src x.t x.n):=hpx
      clear hpx
      refine (PK.out _).mono ?_
      rintro e w2 ⟨rfl,rfl⟩
      have y2:(w2.alloc (.cells #[.pointer (some ⟨x.p,0,none⟩),.pointer (some ⟨x.q,0,none⟩)] 51)).cell? ⟨X,2,none⟩=some (.int .i64 kn):=(cell_eq (Below.heap_alloc _ _ _ (lt_of_heap HX.out)) _).trans (by rw [World.cell?,HX.out];rfl)
      have GY:Hid (AlSt w1 (w2.alloc (.cells #[.pointer (some ⟨x.p,0,none⟩),.pointer (some ⟨x.q,0,none⟩)] 51)) b f c (.slice aa l.length ca) (.slice (some ⟨g,0,none⟩) ps.length cp) l ps kS kR n vS vN vR vQ es rs):=GX.out.upd0 (Upd.alloc (Upd.refl _ _) _)
      have HPY:Hid (PatAt (w2.alloc (.cells #[.pointer (some ⟨x.p,0,none⟩),.pointer (some ⟨x.q,0,none⟩)] 51)) x.p x.t x.n∧RfPat (w2.alloc (.cells #[.pointer (some ⟨x.p,0,none⟩),.pointer (some ⟨x.q,0,none⟩)] 51)) x.q x.src x.t x.n):=⟨HPX.out.1.upd (Upd.alloc (Upd.refl _ _) _),HPX.out.2.upd (Upd.alloc (Upd.refl _ _) _)⟩
      have XY:Hid ((w2.alloc (.cells #[.pointer (some ⟨x.p,0,none⟩),.pointer (some ⟨x.q,0,none⟩)] 51)).heap[X]?=some (.cells #[.int .i64 3,.int .i64 ks,.int .i64 kn,.string tx] 49 (0,0))):=(Below.heap_alloc _ _ _ (lt_of_heap HX.out)).trans HX.out
      have YY:Hid ((w2.alloc (.cells #[.pointer (some ⟨x.p,0,none⟩),.pointer (some ⟨x.q,0,none⟩)] 51)).heap[w2.heap.size]?=some (.cells #[.pointer (some ⟨x.p,0,none⟩),.pointer (some ⟨x.q,0,none⟩)] 51 (0,0))):=heap_new rfl
      go_wp2_with fail
      generalize hY:w2.heap.size=Y at *
      generalize w2.alloc (.cells #[.pointer (some ⟨x.p,0,none⟩),.pointer (some ⟨x.q,0,none⟩)] 51)=wy at *
      clear z0 z1 y2
      by_cases hkn:kn < 0∨100 < kn
      ·refine (sOpen_arg x.p kn _ hkn).mono ?_
       rintro e w3 ⟨rfl,u3⟩
       have x1:w3.cell? ⟨Y,1,none⟩=some (.pointer (some ⟨x.q,0,none⟩)):=by
        have h:=(u3.block Y (lt_of_heap YY.out) (by simp)).trans YY.out
        rw [World.cell?,h];rfl
       have x2:w3.cell? ⟨X,2,none⟩=some (.int .i64 kn):=by
        have h:=(u3.block X (lt_of_heap XY.out) (by simp)).trans XY.out
        rw [World.cell?,h];rfl
       have G3:Hid (AlSt w1 w3 b f c (.slice aa l.length ca) (.slice (some ⟨g,0,none⟩) ps.length cp) l ps kS kR n vS vN vR vQ es rs):=GY.out.upd0 u3
       clear u3
       have HKN:Hid (kn < 0∨100 < kn):=hkn
       clear hkn
       go_wp2_with fail
       refine (rOpen_arg x.q kn _ HKN.out).mono ?_
       rintro e w4 ⟨rfl,u4⟩
       have GN:Hid (AlSt w1 w4 b f (c+1) (.slice aa l.length ca) (.slice (some ⟨g,0,none⟩) ps.length cp) l ps kS kR n vS vN vR vQ es rs):=(G3.out.upd0 u4).next
       clear u4 x1 x2
       go_wp2_with fail
       refine (bStill_any w1.heap.size _ b _ _ _ _ _ _ _ _ _ GN.out.bk (by have:=GN.out.hS;have:=GN.out.hR;have:=tot_mono f (show c+1≤len by omega);omega) (by have:=GN.out.hR;omega)).mono ?_
       rintro e w9 ⟨rfl,u9⟩
       have RL:Hid (AlInv w1 b f len gm (.slice aa l.length ca) (.slice (some ⟨g,0,none⟩) ps.length cp) (.int .i64 (c+1:Nat)) w9):=⟨c+1,_,_,_,_,_,_,_,_,_,_,_,rfl,by omega,GN.out.upd0 u9⟩
       clear u9
       go_wp2_with fail
       go_roundg gm
       case measure=>omega
       case rel=>exact RL.out
      ·obtain⟨m,rfl⟩:∃ m:Nat,kn=(m:Int):=⟨kn.toNat,by omega⟩
       have hm:m≤100:=by omega
       clear hkn
       refine (sOpen_at x.p m _ hm).mono ?_
       rintro e w3 ⟨s,cc,gg,cpp,rfl,hg1,hg2,hg3,hg4,S3,C3,u3⟩
       have x1:w3.cell? ⟨Y,1,none⟩=some (.pointer (some ⟨x.q,0,none⟩)):=by
        have h:=(u3.block Y (lt_of_heap YY.out) (by simp)).trans YY.out
        rw [World.cell?,h];rfl
       have x2:w3.cell? ⟨X,2,none⟩=some (.int .i64 m):=by
        have h:=(u3.block X (lt_of_heap XY.out) (by simp)).trans XY.out
        rw [World.cell?,h];rfl
       have U3:Hid (Upd [] wy w3):=u3
       have HS3:Hid (StAt w3 s cc):=S3
       have HC3:Hid (CuSt w3 cc x.p m gg 0 cpp ⟨0,0,0,[]⟩):=C3
       have HG:Hid (wy.heap.size≤gg∧gg < cc∧cc < s∧s < w3.heap.size):=⟨hg1,hg2,hg3,hg4⟩
       clear u3 S3 C3 hg1 hg2 hg3 hg4
       go_wp2_with fail
       refine (rOpen_any x.q m _ hm).mono ?_
       rintro e w4 ⟨rfl,R4,u4⟩
       have HR4:Hid (RsAt w4 w3.heap.size x.q m ByteArray.empty 0 0 false):=R4
       have U4:Hid (Upd [] wy w4):=U3.out.trans u4
       have HS4:Hid (StAt w4 s cc):=(u4.block s HG.out.2.2.2 (by simp)).trans HS3.out
       have HC4:Hid (CuSt w4 cc x.p m gg 0 cpp ⟨0,0,0,[]⟩):=CuAt.blocks HC3.out (u4.block cc (lt_of_heap HC3.out.cell) (by simp)) (fun k hk=>u4.block k (ownBlock_lt HC3.out.held hk).1 (by simp))
       have H34:Hid (w3.heap.size < w4.heap.size∧wy.heap.size≤w3.heap.size):=⟨lt_of_heap R4,U3.out.size⟩
       obtain⟨T,hT⟩:∃ T:Tw,T=⟨s,cc,gg,0,cpp,w3.heap.size,x.p,x.q,x.src,x.t,x.n,m,⟨0,0,0,[]⟩,ByteArray.empty,false⟩:=⟨_,rfl⟩
       have HT:Hid (TwAt w1.heap.size w4 T∧(∀ k,k∈T.blks→wy.heap.size≤k)∧T.A.size=0∧T.s=s∧T.r=w3.heap.size):=by
        have hz:=GY.out.up.size
        have hg:=HG.out
        have h34:=H34.out
        subst hT
        refine⟨⟨fun _=>⟨HS4.out,HC4.out,HR4.out⟩,fun e=>(by cases e),?_,HPY.out.1.upd U4.out,HPY.out.2.upd U4.out,Sp.StrAt.zero _ _,by show 0=min 0 m;omega,hm,Nat.zero_le _⟩,?_,rfl,rfl,rfl⟩
        ·intro k hk
         have hk':k=s∨k=cc∨k=gg∨k=w3.heap.size:=by simpa [Tw.blks] using hk
         rcases hk' with rfl|rfl|rfl|rfl
         ·exact⟨by omega,lt_of_heap HS4.out,_,⟨_,HS4.out⟩,rfl⟩
         ·exact⟨by omega,lt_of_heap HC4.out.cell,_,CuAt.ty HC4.out,rfl⟩
         ·exact⟨by omega,(CuAt.tyg HC4.out).lt,_,CuAt.tyg HC4.out,rfl⟩
         ·exact⟨by omega,lt_of_heap HR4.out,_,RsAt.ty HR4.out,rfl⟩
        ·intro k hk
         have hk':k=s∨k=cc∨k=gg∨k=w3.heap.size:=by simpa [Tw.blks] using hk
         omega
       clear hT
       have GQ:Hid (AlSt w1 w4 b f c (.slice aa l.length ca) (.slice (some ⟨g,0,none⟩) ps.length cp) l ps kS kR n vS vN vR vQ es rs):=GY.out.upd0 U4.out
       have G4:Hid (AlSt w1 (w4.alloc (.cells #[.pointer (some ⟨s,0,none⟩),.pointer (some ⟨w3.heap.size,0,none⟩)] 55)) b f c (.slice aa l.length ca) (.slice (some ⟨g,0,none⟩) ps.length cp) l ps kS kR n vS vN vR vQ es rs):=GQ.out.upd0 (Upd.alloc (Upd.refl _ _) _)
       have HT4:Hid (TwO w1.heap.size (w4.alloc (.cells #[.pointer (some ⟨s,0,none⟩),.pointer (some ⟨w3.heap.size,0,none⟩)] 55)) (some T)):=TwAt.keep0 HT.out.1 (Upd.alloc (Upd.refl _ _) _)
       have HDJ:Hid (∀ (i:Nat) o',l[i]?=some o'→∀ k,k∈blkO (some T)→k∉blkO o'):=fun i o' hi k hk hk2=>by
        have h1:=HT.out.2.1 k hk
        have h2:=blkO_lt (GY.out.tw i o' hi) k hk2
        omega
       have HSB:Hid (w1.heap.size≤(w4.alloc (.cells #[.pointer (some ⟨s,0,none⟩),.pointer (some ⟨w3.heap.size,0,none⟩)] 55)).heap.size):=G4.out.up.size
       have HTV:Hid (twV (some T)=[.pointer (some ⟨s,0,none⟩),.pointer (some ⟨w3.heap.size,0,none⟩)]):=by show [_,_]=_;rw [HT.out.2.2.2.1,HT.out.2.2.2.2]
       obtain⟨it,hi1,hi2,hi3,hi4⟩:=lInfoTw
       have HIT:Hid (Tryz.prog.info? 55=some it∧it.zero=some (.agg #[.pointer none,.pointer none])∧it.size=2∧it.bytes=16):=⟨hi1,hi2,hi3,hi4⟩
       clear hi1 hi2 hi3 hi4 R4 u4 x1 x2
       go_wp2_with (first|(at_builtin;refine wpList_append_own_at _ rfl _ _ 46 rfl w1.heap.size 55 it (.agg #[.pointer none,.pointer none]) 2 16 Tryz.underlying46 HIT.out.1 HIT.out.2.1 HIT.out.2.2.1 HIT.out.2.2.2 rfl (by decide) _ _ _ rfl G4.out.ra ⟨w4.heap.size,0,none⟩ 1 1 [.pointer (some ⟨s,0,none⟩),.pointer (some ⟨w3.heap.size,0,none⟩)] rfl rfl (by exact cells_two _ _ _ _) (by intro u hu;simp at hu;rcases hu with rfl|rfl<;>rfl) (by unfold maxLen;omega) (by omega) HSB.out ?_)|fail)
       intro va' w5 hown' hgrow hnil hloc
       obtain⟨aa',ca',hva',_⟩:=row_form hown'
       subst hva'
       have GN:Hid (AlSt w1 w5 b f (c+1) (.slice aa' (l.length+1) ca') (.slice (some ⟨g,0,none⟩) ps.length cp) (l++[some T]) ps kS kR n vS vN vR vQ es rs):=G4.out.moreA (some T) HT4.out HDJ.out (fun y hy=>by injection hy with hy;subst hy;exact HT.out.2.2.1) (by rw [hb,HTV.out];exact hown') hgrow
       clear hown' hgrow hnil hloc
       go_wp2_with fail
       refine (bStill_any w1.heap.size _ b _ _ _ _ _ _ _ _ _ GN.out.bk (by have:=GN.out.hS;have:=GN.out.hR;have:=tot_mono f (show c+1≤len by omega);omega) (by have:=GN.out.hR;omega)).mono ?_
       rintro e w9 ⟨rfl,u9⟩
       have RL:Hid (AlInv w1 b f len gm (.slice aa' (l.length+1) ca') (.slice (some ⟨g,0,none⟩) ps.length cp) (.int .i64 (c+1:Nat)) w9):=⟨c+1,_,_,_,_,_,_,_,_,_,_,_,rfl,by omega,GN.out.upd0 u9⟩
       clear u9
       go_wp2_with fail
       go_roundg gm
       case measure=>omega
       case rel=>exact RL.out
    ·have hp0':¬ (0:Int) < ps.length:=by omega
     as_aux_lemma=>
      go_wp2_with fail
      generalize hX:wr.heap.size=X at *
      generalize wr.alloc (.cells #[.int .i64 3,.int .i64 ks,.int .i64 kn,.string tx] 49)=wx at *
      have GN:Hid (AlSt w1 wx b f (c+1) (.slice aa l.length ca) (.slice ap ps.length cp) l ps kS kR n vS vN vR vQ es rs):=GX.out.next
      refine (bStill_any w1.heap.size _ b _ _ _ _ _ _ _ _ _ GN.out.bk (by have:=GN.out.hS;have:=GN.out.hR;have:=tot_mono f (show c+1≤len by omega);omega) (by have:=GN.out.hR;omega)).mono ?_
      rintro e w9 ⟨rfl,u9⟩
      have RL:Hid (AlInv w1 b f len gm (.slice aa l.length ca) (.slice ap ps.length cp) (.int .i64 (c+1:Nat)) w9):=⟨c+1,_,_,_,_,_,_,_,_,_,_,_,rfl,by omega,GN.out.upd0 u9⟩
      clear u9
      go_wp2_with fail
      go_roundg gm
      case measure=>omega
      case rel=>exact RL.out
   by_cases k7:kk=7
   ·subst k7
    by_cases hp0:0 < ps.length
    ·have hp0':(0:Int) < ps.length:=by omega
     as_aux_lemma=>
      obtain⟨g,hg⟩:=GX.out.someP hp0
      subst hg
      have hpk:=pickN_lt ks hp0
      obtain⟨k,hk⟩:∃ k,k=pickN ks ps.length:=⟨_,rfl⟩
      rw [← hk] at hpk
      have HK:Hid (pickN ks ps.length=k):=hk.symm
      clear hk
      have PK:Hid (∀ w2:World,Calls Tryz.prog 16 #[.int .i64 ks,.int .i64 ps.length] w2 fun e w'=>e=.returned (.int .i64 k)∧w'=w2):=fun w2=>by have h:=pick_is ks ps.length w2 hs64 ⟨hp0,by omega⟩;rw [HK.out] at h;exact h
      go_wp2_with fail
      generalize hX:wr.heap.size=X at *
      generalize wr.alloc (.cells #[.int .i64 7,.int .i64 ks,.int .i64 kn,.string tx] 49)=wx at *
      obtain⟨y0,y1,y2,y3⟩:wx.cell? ⟨X,0,none⟩=some (.int .i64 7)∧wx.cell? ⟨X,1,none⟩=some (.int .i64 ks)∧wx.cell? ⟨X,2,none⟩=some (.int .i64 kn)∧wx.cell? ⟨X,3,none⟩=some (.string tx):=by
       refine⟨?_,?_,?_,?_⟩<;>(rw [World.cell?,HX.out];rfl)
      obtain⟨x,z0,z1,hpx⟩:=GX.out.getP k hpk
      have GD:Hid (AlSt w1 wx.drew b f c (.slice aa l.length ca) (.slice (some ⟨g,0,none⟩) ps.length cp) l ps kS kR n vS vN vR vQ es rs):=GX.out.upd0 (Upd.drew (Upd.refl _ _))
      have HPX:Hid (PatAt wx.drew x.p x.t x.n∧RfPat wx.drew x.q x.src x.t x.n):=⟨hpx.1.upd (Upd.drew (Upd.refl _ _)),hpx.2.upd (Upd.drew (Upd.refl _ _))⟩
      have TG:Hid (TyIs wx.drew g 51):=own_tyP GD.out.rp rfl
      have TX:Hid (TyIs wx.drew X 49):=⟨_,HX.out⟩
      have Y1:Hid (wx.drew.cell? ⟨X,1,none⟩=some (.int .i64 ks)):=y1
      have Y3:Hid (wx.drew.cell? ⟨X,3,none⟩=some (.string tx)):=y3
      have Z0:Hid (wx.drew.cell? ⟨g,k * 2,none⟩=some (.pointer (some ⟨x.p,0,none⟩))):=z0
      have Z1:Hid (wx.drew.cell? ⟨g,k * 2+1,none⟩=some (.pointer (some ⟨x.q,0,none⟩))):=z1
      have HSB:Hid (w1.heap.size≤wx.drew.heap.size):=GD.out.up.size
      have HKB:Hid (kS≤60000000∧0≤n∧n≤60000000):=⟨by have:=GX.out.hS;have:=tot_mono f (show c≤len by omega);omega,GX.out.hn.1,by have:=GX.out.hn.2;have:=tot_mono f (show c≤len by omega);omega⟩
      clear hpx
      go_region_held3 (fun w'=>w'.cell? ⟨X,1,none⟩=some (.int .i64 ks)∧w'.cell? ⟨X,3,none⟩=some (.string tx)∧w'.cell? ⟨g,k * 2,none⟩=some (.pointer (some ⟨x.p,0,none⟩))∧w'.cell? ⟨g,k * 2+1,none⟩=some (.pointer (some ⟨x.q,0,none⟩))) (go_keep) (first|(go_at_call 16;refine (PK.out _).mono ?_;rintro e w2 ⟨rfl,rfl⟩)|(go_at_call 19;refine (pairM_any w1.heap.size b kS kR n vS vN vR vQ es rs _ x.p x.q x.src x.t x.n tx GD.out.bk HPX.out.1 HPX.out.2 HSB.out HKB.out.1 HKB.out.2).mono ?_;rintro e w5 ⟨rfl,F5,yS,yN,es5,A5⟩;have GN:Hid (AlSt w1 w5 b f (c+1) (.slice aa l.length ca) (.slice (some ⟨g,0,none⟩) ps.length cp) l ps (kS+4) kR (n+1) yS yN vR vQ es5 rs):=GD.out.book F5 A5;have q1:w5.cell? ⟨X,1,none⟩=some (.int .i64 ks):=(cell_eq (F5.ty TX.out (by decide)) _).trans Y1.out;have q3:w5.cell? ⟨X,3,none⟩=some (.string tx):=(cell_eq (F5.ty TX.out (by decide)) _).trans Y3.out;have q4:w5.cell? ⟨g,k * 2,none⟩=some (.pointer (some ⟨x.p,0,none⟩)):=(cell_eq (F5.ty TG.out (by decide)) _).trans Z0.out;have q5:w5.cell? ⟨g,k * 2+1,none⟩=some (.pointer (some ⟨x.q,0,none⟩)):=(cell_eq (F5.ty TG.out (by decide)) _).trans Z1.out;clear F5 A5))
      clear q1 q3 q4 q5 y0 y1 y2 y3 z0 z1
      go_wp2_with fail
      refine (bStill_any w1.heap.size _ b _ _ _ _ _ _ _ _ _ GN.out.bk (by have:=GN.out.hS;have:=GN.out.hR;have:=tot_mono f (show c+1≤len by omega);omega) (by have:=GN.out.hR;omega)).mono ?_
      rintro e w9 ⟨rfl,u9⟩
      have RL:Hid (AlInv w1 b f len gm (.slice aa l.length ca) (.slice (some ⟨g,0,none⟩) ps.length cp) (.int .i64 (c+1:Nat)) w9):=⟨c+1,_,_,_,_,_,_,_,_,_,_,_,rfl,by omega,GN.out.upd0 u9⟩
      clear u9
      go_wp2_with fail
      go_roundg gm
      case measure=>omega
      case rel=>exact RL.out
    ·have hp0':¬ (0:Int) < ps.length:=by omega
     as_aux_lemma=>
      go_wp2_with fail
      generalize hX:wr.heap.size=X at *
      generalize wr.alloc (.cells #[.int .i64 7,.int .i64 ks,.int .i64 kn,.string tx] 49)=wx at *
      have GN:Hid (AlSt w1 wx b f (c+1) (.slice aa l.length ca) (.slice ap ps.length cp) l ps kS kR n vS vN vR vQ es rs):=GX.out.next
      refine (bStill_any w1.heap.size _ b _ _ _ _ _ _ _ _ _ GN.out.bk (by have:=GN.out.hS;have:=GN.out.hR;have:=tot_mono f (show c+1≤len by omega);omega) (by have:=GN.out.hR;omega)).mono ?_
      rintro e w9 ⟨rfl,u9⟩
      have RL:Hid (AlInv w1 b f len gm (.slice aa l.length ca) (.slice ap ps.length cp) (.int .i64 (c+1:Nat)) w9):=⟨c+1,_,_,_,_,_,_,_,_,_,_,_,rfl,by omega,GN.out.upd0 u9⟩
      clear u9
      go_wp2_with fail
      go_roundg gm
      case measure=>omega
      case rel=>exact RL.out
   have h456:kk=4∨kk=5∨kk=6:=by omega
   by_cases hl0:0 < l.length
   ·have hl0':(0:Int) < l.length:=by omega
    rcases h456 with h456|h456|h456
    ·subst h456
     as_aux_lemma=>
      obtain⟨g,hg⟩:=GX.out.someA hl0
      subst hg
      have hpk:=pickN_lt ks hl0
      obtain⟨k,hk⟩:∃ k,k=pickN ks l.length:=⟨_,rfl⟩
      rw [← hk] at hpk
      have HK:Hid (pickN ks l.length=k):=hk.symm
      clear hk
      have PK:Hid (∀ w2:World,Calls Tryz.prog 16 #[.int .i64 ks,.int .i64 l.length] w2 fun e w'=>e=.returned (.int .i64 k)∧w'=w2):=fun w2=>by have h:=pick_is ks l.length w2 hs64 ⟨hl0,by omega⟩;rw [HK.out] at h;exact h
      go_wp2_with fail
      generalize hX:wr.heap.size=X at *
      generalize wr.alloc (.cells #[.int .i64 4,.int .i64 ks,.int .i64 kn,.string tx] 49)=wx at *
      obtain⟨y0,y1,y2,y3⟩:wx.cell? ⟨X,0,none⟩=some (.int .i64 4)∧wx.cell? ⟨X,1,none⟩=some (.int .i64 ks)∧wx.cell? ⟨X,2,none⟩=some (.int .i64 kn)∧wx.cell? ⟨X,3,none⟩=some (.string tx):=by
       refine⟨?_,?_,?_,?_⟩<;>(rw [World.cell?,HX.out];rfl)
      obtain⟨o,ho,z0,z1⟩:=GX.out.getA k hpk
      have HO:Hid (l[k]?=some o):=ho
      have GD:Hid (AlSt w1 wx.drew b f c (.slice (some ⟨g,0,none⟩) l.length ca) (.slice ap ps.length cp) l ps kS kR n vS vN vR vQ es rs):=GX.out.upd0 (Upd.drew (Upd.refl _ _))
      have TG:Hid (TyIs wx.drew g 55):=own_tyP GD.out.ra rfl
      have TX:Hid (TyIs wx.drew X 49):=⟨_,HX.out⟩
      have Y0:Hid (wx.drew.cell? ⟨X,0,none⟩=some (.int .i64 4)):=y0
      have Y1:Hid (wx.drew.cell? ⟨X,1,none⟩=some (.int .i64 ks)):=y1
      have Y2:Hid (wx.drew.cell? ⟨X,2,none⟩=some (.int .i64 kn)):=y2
      have Y3:Hid (wx.drew.cell? ⟨X,3,none⟩=some (.string tx)):=y3
      have Z0:Hid (wx.drew.cell? ⟨g,k * 2,none⟩=some (.pointer (xO o))):=z0
      have Z1:Hid (wx.drew.cell? ⟨g,k * 2+1,none⟩=some (.pointer (rO o))):=z1
      have hs1:kS≤40000000:=by have:=GX.out.hS;have:=tot_mono f (show c≤len by omega);omega
      have hs2:kR≤40000000:=by have:=GX.out.hR;omega
      have hs3:0≤n∧n≤40000000:=⟨GX.out.hn.1,by have:=GX.out.hn.2;have:=tot_mono f (show c≤len by omega);omega⟩
      have HSB:Hid (w1.heap.size≤wx.drew.heap.size):=GD.out.up.size
      have HDO:Hid (Calls Tryz.prog 21 #[.agg #[.pointer (xO o),.pointer (rO o)],.pointer (some ⟨b,0,none⟩),.agg #[.int .i64 4,.int .i64 ks,.int .i64 kn,.string tx]] wx.drew (DoOut w1.heap.size b kS kR n tx.size o wx.drew)):=does_feed w1.heap.size b kS kR n vS vN vR vQ es rs o tx ks kn _ GD.out.bk (GD.out.tw k o ho) (by omega) (fun y hy=>by rw [hy] at ho;have h1:=GX.out.sz k y ho;omega) HSB.out hs1 hs2 hs3
      clear hs1 hs2 hs3 ho
      go_region_held3 (fun w'=>w'.cell? ⟨X,0,none⟩=some (.int .i64 4)∧w'.cell? ⟨X,1,none⟩=some (.int .i64 ks)∧w'.cell? ⟨X,2,none⟩=some (.int .i64 kn)∧w'.cell? ⟨X,3,none⟩=some (.string tx)∧w'.cell? ⟨g,k * 2,none⟩=some (.pointer (xO o))∧w'.cell? ⟨g,k * 2+1,none⟩=some (.pointer (rO o))) (go_keep) (first|(go_at_call 16;refine (PK.out _).mono ?_;rintro e w2 ⟨rfl,rfl⟩)|(go_at_call 21;refine HDO.out.mono ?_;intro e w5 D5;obtain rfl:=D5.1;obtain⟨l',kS',kR',n',yS,yN,yR,yQ,es',rs',gn⟩:=AlSt.goes GD.out HO.out (by have:=HTX.out;rw [this];exact Nat.le_refl _) D5;have GN:Hid (AlSt w1 w5 b f (c+1) (.slice (some ⟨g,0,none⟩) l.length ca) (.slice ap ps.length cp) l' ps kS' kR' n' yS yN yR yQ es' rs'):=gn;have hX5:=D5.2.1.opt (GD.out.tw k o HO.out) TX.out (by decide) (by decide);have hG5:=D5.2.1.opt (GD.out.tw k o HO.out) TG.out (by decide) (by decide);have q0:w5.cell? ⟨X,0,none⟩=some (.int .i64 4):=(cell_eq hX5 _).trans Y0.out;have q1:w5.cell? ⟨X,1,none⟩=some (.int .i64 ks):=(cell_eq hX5 _).trans Y1.out;have q2:w5.cell? ⟨X,2,none⟩=some (.int .i64 kn):=(cell_eq hX5 _).trans Y2.out;have q3:w5.cell? ⟨X,3,none⟩=some (.string tx):=(cell_eq hX5 _).trans Y3.out;have q4:w5.cell? ⟨g,k * 2,none⟩=some (.pointer (xO o)):=(cell_eq hG5 _).trans Z0.out;have q5:w5.cell? ⟨g,k * 2+1,none⟩=some (.pointer (rO o)):=(cell_eq hG5 _).trans Z1.out;clear D5 gn hX5 hG5))
      clear q0 q1 q2 q3 q4 q5 y0 y1 y2 y3 z0 z1
      go_wp2_with fail
      refine (bStill_any w1.heap.size _ b _ _ _ _ _ _ _ _ _ GN.out.bk (by have:=GN.out.hS;have:=GN.out.hR;have:=tot_mono f (show c+1≤len by omega);omega) (by have:=GN.out.hR;omega)).mono ?_
      rintro e w9 ⟨rfl,u9⟩
      have RL:Hid (AlInv w1 b f len gm (.slice (some ⟨g,0,none⟩) l.length ca) (.slice ap ps.length cp) (.int .i64 (c+1:Nat)) w9):=⟨c+1,_,_,_,_,_,_,_,_,_,_,_,rfl,by omega,GN.out.upd0 u9⟩
      clear u9
      go_wp2_with fail
      go_roundg gm
      case measure=>omega
      case rel=>exact RL.out
    ·subst h456
     as_aux_lemma=>
      obtain⟨g,hg⟩:=GX.out.someA hl0
      subst hg
      have hpk:=pickN_lt ks hl0
      obtain⟨k,hk⟩:∃ k,k=pickN ks l.length:=⟨_,rfl⟩
      rw [← hk] at hpk
      have HK:Hid (pickN ks l.length=k):=hk.symm
      clear hk
      have PK:Hid (∀ w2:World,Calls Tryz.prog 16 #[.int .i64 ks,.int .i64 l.length] w2 fun e w'=>e=.returned (.int .i64 k)∧w'=w2):=fun w2=>by have h:=pick_is ks l.length w2 hs64 ⟨hl0,by omega⟩;rw [HK.out] at h;exact h
      go_wp2_with fail
      generalize hX:wr.heap.size=X at *
      generalize wr.alloc (.cells #[.int .i64 5,.int .i64 ks,.int .i64 kn,.string tx] 49)=wx at *
      obtain⟨y0,y1,y2,y3⟩:wx.cell? ⟨X,0,none⟩=some (.int .i64 5)∧wx.cell? ⟨X,1,none⟩=some (.int .i64 ks)∧wx.cell? ⟨X,2,none⟩=some (.int .i64 kn)∧wx.cell? ⟨X,3,none⟩=some (.string tx):=by
       refine⟨?_,?_,?_,?_⟩<;>(rw [World.cell?,HX.out];rfl)
      obtain⟨o,ho,z0,z1⟩:=GX.out.getA k hpk
      have HO:Hid (l[k]?=some o):=ho
      have GD:Hid (AlSt w1 wx.drew b f c (.slice (some ⟨g,0,none⟩) l.length ca) (.slice ap ps.length cp) l ps kS kR n vS vN vR vQ es rs):=GX.out.upd0 (Upd.drew (Upd.refl _ _))
      have TG:Hid (TyIs wx.drew g 55):=own_tyP GD.out.ra rfl
      have TX:Hid (TyIs wx.drew X 49):=⟨_,HX.out⟩
      have Y0:Hid (wx.drew.cell? ⟨X,0,none⟩=some (.int .i64 5)):=y0
      have Y1:Hid (wx.drew.cell? ⟨X,1,none⟩=some (.int .i64 ks)):=y1
      have Y2:Hid (wx.drew.cell? ⟨X,2,none⟩=some (.int .i64 kn)):=y2
      have Y3:Hid (wx.drew.cell? ⟨X,3,none⟩=some (.string tx)):=y3
      have Z0:Hid (wx.drew.cell? ⟨g,k * 2,none⟩=some (.pointer (xO o))):=z0
      have Z1:Hid (wx.drew.cell? ⟨g,k * 2+1,none⟩=some (.pointer (rO o))):=z1
      have hs1:kS≤40000000:=by have:=GX.out.hS;have:=tot_mono f (show c≤len by omega);omega
      have hs2:kR≤40000000:=by have:=GX.out.hR;omega
      have hs3:0≤n∧n≤40000000:=⟨GX.out.hn.1,by have:=GX.out.hn.2;have:=tot_mono f (show c≤len by omega);omega⟩
      have HSB:Hid (w1.heap.size≤wx.drew.heap.size):=GD.out.up.size
      have HDO:Hid (Calls Tryz.prog 21 #[.agg #[.pointer (xO o),.pointer (rO o)],.pointer (some ⟨b,0,none⟩),.agg #[.int .i64 5,.int .i64 ks,.int .i64 kn,.string tx]] wx.drew (DoOut w1.heap.size b kS kR n 0 o wx.drew)):=does_held w1.heap.size b kS kR n vS vN vR vQ es rs o tx ks kn _ GD.out.bk (GD.out.tw k o ho) (fun y hy=>by rw [hy] at ho;have h1:=GX.out.sz k y ho;omega) hs3 0
      clear hs1 hs2 hs3 ho
      go_region_held3 (fun w'=>w'.cell? ⟨X,0,none⟩=some (.int .i64 5)∧w'.cell? ⟨X,1,none⟩=some (.int .i64 ks)∧w'.cell? ⟨X,2,none⟩=some (.int .i64 kn)∧w'.cell? ⟨X,3,none⟩=some (.string tx)∧w'.cell? ⟨g,k * 2,none⟩=some (.pointer (xO o))∧w'.cell? ⟨g,k * 2+1,none⟩=some (.pointer (rO o))) (go_keep) (first|(go_at_call 16;refine (PK.out _).mono ?_;rintro e w2 ⟨rfl,rfl⟩)|(go_at_call 21;refine HDO.out.mono ?_;intro e w5 D5;obtain rfl:=D5.1;obtain⟨l',kS',kR',n',yS,yN,yR,yQ,es',rs',gn⟩:=AlSt.goes GD.out HO.out (by have:=HTX.out;exact Nat.zero_le _) D5;have GN:Hid (AlSt w1 w5 b f (c+1) (.slice (some ⟨g,0,none⟩) l.length ca) (.slice ap ps.length cp) l' ps kS' kR' n' yS yN yR yQ es' rs'):=gn;have hX5:=D5.2.1.opt (GD.out.tw k o HO.out) TX.out (by decide) (by decide);have hG5:=D5.2.1.opt (GD.out.tw k o HO.out) TG.out (by decide) (by decide);have q0:w5.cell? ⟨X,0,none⟩=some (.int .i64 5):=(cell_eq hX5 _).trans Y0.out;have q1:w5.cell? ⟨X,1,none⟩=some (.int .i64 ks):=(cell_eq hX5 _).trans Y1.out;have q2:w5.cell? ⟨X,2,none⟩=some (.int .i64 kn):=(cell_eq hX5 _).trans Y2.out;have q3:w5.cell? ⟨X,3,none⟩=some (.string tx):=(cell_eq hX5 _).trans Y3.out;have q4:w5.cell? ⟨g,k * 2,none⟩=some (.pointer (xO o)):=(cell_eq hG5 _).trans Z0.out;have q5:w5.cell? ⟨g,k * 2+1,none⟩=some (.pointer (rO o)):=(cell_eq hG5 _).trans Z1.out;clear D5 gn hX5 hG5))
      clear q0 q1 q2 q3 q4 q5 y0 y1 y2 y3 z0 z1
      go_wp2_with fail
      refine (bStill_any w1.heap.size _ b _ _ _ _ _ _ _ _ _ GN.out.bk (by have:=GN.out.hS;have:=GN.out.hR;have:=tot_mono f (show c+1≤len by omega);omega) (by have:=GN.out.hR;omega)).mono ?_
      rintro e w9 ⟨rfl,u9⟩
      have RL:Hid (AlInv w1 b f len gm (.slice (some ⟨g,0,none⟩) l.length ca) (.slice ap ps.length cp) (.int .i64 (c+1:Nat)) w9):=⟨c+1,_,_,_,_,_,_,_,_,_,_,_,rfl,by omega,GN.out.upd0 u9⟩
      clear u9
      go_wp2_with fail
      go_roundg gm
      case measure=>omega
      case rel=>exact RL.out
    ·subst h456
     as_aux_lemma=>
      obtain⟨g,hg⟩:=GX.out.someA hl0
      subst hg
      have hpk:=pickN_lt ks hl0
      obtain⟨k,hk⟩:∃ k,k=pickN ks l.length:=⟨_,rfl⟩
      rw [← hk] at hpk
      have HK:Hid (pickN ks l.length=k):=hk.symm
      clear hk
      have PK:Hid (∀ w2:World,Calls Tryz.prog 16 #[.int .i64 ks,.int .i64 l.length] w2 fun e w'=>e=.returned (.int .i64 k)∧w'=w2):=fun w2=>by have h:=pick_is ks l.length w2 hs64 ⟨hl0,by omega⟩;rw [HK.out] at h;exact h
      go_wp2_with fail
      generalize hX:wr.heap.size=X at *
      generalize wr.alloc (.cells #[.int .i64 6,.int .i64 ks,.int .i64 kn,.string tx] 49)=wx at *
      obtain⟨y0,y1,y2,y3⟩:wx.cell? ⟨X,0,none⟩=some (.int .i64 6)∧wx.cell? ⟨X,1,none⟩=some (.int .i64 ks)∧wx.cell? ⟨X,2,none⟩=some (.int .i64 kn)∧wx.cell? ⟨X,3,none⟩=some (.string tx):=by
       refine⟨?_,?_,?_,?_⟩<;>(rw [World.cell?,HX.out];rfl)
      obtain⟨o,ho,z0,z1⟩:=GX.out.getA k hpk
      have HO:Hid (l[k]?=some o):=ho
      have GD:Hid (AlSt w1 wx.drew b f c (.slice (some ⟨g,0,none⟩) l.length ca) (.slice ap ps.length cp) l ps kS kR n vS vN vR vQ es rs):=GX.out.upd0 (Upd.drew (Upd.refl _ _))
      have TG:Hid (TyIs wx.drew g 55):=own_tyP GD.out.ra rfl
      have TX:Hid (TyIs wx.drew X 49):=⟨_,HX.out⟩
      have Y0:Hid (wx.drew.cell? ⟨X,0,none⟩=some (.int .i64 6)):=y0
      have Y1:Hid (wx.drew.cell? ⟨X,1,none⟩=some (.int .i64 ks)):=y1
      have Y2:Hid (wx.drew.cell? ⟨X,2,none⟩=some (.int .i64 kn)):=y2
      have Y3:Hid (wx.drew.cell? ⟨X,3,none⟩=some (.string tx)):=y3
      have Z0:Hid (wx.drew.cell? ⟨g,k * 2,none⟩=some (.pointer (xO o))):=z0
      have Z1:Hid (wx.drew.cell? ⟨g,k * 2+1,none⟩=some (.pointer (rO o))):=z1
      have hs1:kS≤40000000:=by have:=GX.out.hS;have:=tot_mono f (show c≤len by omega);omega
      have hs2:kR≤40000000:=by have:=GX.out.hR;omega
      have hs3:0≤n∧n≤40000000:=⟨GX.out.hn.1,by have:=GX.out.hn.2;have:=tot_mono f (show c≤len by omega);omega⟩
      have HSB:Hid (w1.heap.size≤wx.drew.heap.size):=GD.out.up.size
      have HDO:Hid (Calls Tryz.prog 21 #[.agg #[.pointer (xO o),.pointer (rO o)],.pointer (some ⟨b,0,none⟩),.agg #[.int .i64 6,.int .i64 ks,.int .i64 kn,.string tx]] wx.drew (DoOut w1.heap.size b kS kR n 0 o wx.drew)):=does_close w1.heap.size b kS kR n vS vN vR vQ es rs o tx ks kn _ GD.out.bk (GD.out.tw k o ho) (fun y hy=>by rw [hy] at ho;have h1:=GX.out.sz k y ho;omega) HSB.out hs1 hs2 hs3 0
      clear hs1 hs2 hs3 ho
      go_region_held3 (fun w'=>w'.cell? ⟨X,0,none⟩=some (.int .i64 6)∧w'.cell? ⟨X,1,none⟩=some (.int .i64 ks)∧w'.cell? ⟨X,2,none⟩=some (.int .i64 kn)∧w'.cell? ⟨X,3,none⟩=some (.string tx)∧w'.cell? ⟨g,k * 2,none⟩=some (.pointer (xO o))∧w'.cell? ⟨g,k * 2+1,none⟩=some (.pointer (rO o))) (go_keep) (first|(go_at_call 16;refine (PK.out _).mono ?_;rintro e w2 ⟨rfl,rfl⟩)|(go_at_call 21;refine HDO.out.mono ?_;intro e w5 D5;obtain rfl:=D5.1;obtain⟨l',kS',kR',n',yS,yN,yR,yQ,es',rs',gn⟩:=AlSt.goes GD.out HO.out (by have:=HTX.out;exact Nat.zero_le _) D5;have GN:Hid (AlSt w1 w5 b f (c+1) (.slice (some ⟨g,0,none⟩) l.length ca) (.slice ap ps.length cp) l' ps kS' kR' n' yS yN yR yQ es' rs'):=gn;have hX5:=D5.2.1.opt (GD.out.tw k o HO.out) TX.out (by decide) (by decide);have hG5:=D5.2.1.opt (GD.out.tw k o HO.out) TG.out (by decide) (by decide);have q0:w5.cell? ⟨X,0,none⟩=some (.int .i64 6):=(cell_eq hX5 _).trans Y0.out;have q1:w5.cell? ⟨X,1,none⟩=some (.int .i64 ks):=(cell_eq hX5 _).trans Y1.out;have q2:w5.cell? ⟨X,2,none⟩=some (.int .i64 kn):=(cell_eq hX5 _).trans Y2.out;have q3:w5.cell? ⟨X,3,none⟩=some (.string tx):=(cell_eq hX5 _).trans Y3.out;have q4:w5.cell? ⟨g,k * 2,none⟩=some (.pointer (xO o)):=(cell_eq hG5 _).trans Z0.out;have q5:w5.cell? ⟨g,k * 2+1,none⟩=some (.pointer (rO o)):=(cell_eq hG5 _).trans Z1.out;clear D5 gn hX5 hG5))
      clear q0 q1 q2 q3 q4 q5 y0 y1 y2 y3 z0 z1
      go_wp2_with fail
      refine (bStill_any w1.heap.size _ b _ _ _ _ _ _ _ _ _ GN.out.bk (by have:=GN.out.hS;have:=GN.out.hR;have:=tot_mono f (show c+1≤len by omega);omega) (by have:=GN.out.hR;omega)).mono ?_
      rintro e w9 ⟨rfl,u9⟩
      have RL:Hid (AlInv w1 b f len gm (.slice (some ⟨g,0,none⟩) l.length ca) (.slice ap ps.length cp) (.int .i64 (c+1:Nat)) w9):=⟨c+1,_,_,_,_,_,_,_,_,_,_,_,rfl,by omega,GN.out.upd0 u9⟩
      clear u9
      go_wp2_with fail
      go_roundg gm
      case measure=>omega
      case rel=>exact RL.out
   ·have hl0':¬ (0:Int) < l.length:=by omega
    rcases h456 with h456|h456|h456
    ·subst h456
     as_aux_lemma=>
      go_wp2_with fail
      generalize hX:wr.heap.size=X at *
      generalize wr.alloc (.cells #[.int .i64 4,.int .i64 ks,.int .i64 kn,.string tx] 49)=wx at *
      have GN:Hid (AlSt w1 wx b f (c+1) (.slice aa l.length ca) (.slice ap ps.length cp) l ps kS kR n vS vN vR vQ es rs):=GX.out.next
      refine (bStill_any w1.heap.size _ b _ _ _ _ _ _ _ _ _ GN.out.bk (by have:=GN.out.hS;have:=GN.out.hR;have:=tot_mono f (show c+1≤len by omega);omega) (by have:=GN.out.hR;omega)).mono ?_
      rintro e w9 ⟨rfl,u9⟩
      have RL:Hid (AlInv w1 b f len gm (.slice aa l.length ca) (.slice ap ps.length cp) (.int .i64 (c+1:Nat)) w9):=⟨c+1,_,_,_,_,_,_,_,_,_,_,_,rfl,by omega,GN.out.upd0 u9⟩
      clear u9
      go_wp2_with fail
      go_roundg gm
      case measure=>omega
      case rel=>exact RL.out
    ·subst h456
     as_aux_lemma=>
      go_wp2_with fail
      generalize hX:wr.heap.size=X at *
      generalize wr.alloc (.cells #[.int .i64 5,.int .i64 ks,.int .i64 kn,.string tx] 49)=wx at *
      have GN:Hid (AlSt w1 wx b f (c+1) (.slice aa l.length ca) (.slice ap ps.length cp) l ps kS kR n vS vN vR vQ es rs):=GX.out.next
      refine (bStill_any w1.heap.size _ b _ _ _ _ _ _ _ _ _ GN.out.bk (by have:=GN.out.hS;have:=GN.out.hR;have:=tot_mono f (show c+1≤len by omega);omega) (by have:=GN.out.hR;omega)).mono ?_
      rintro e w9 ⟨rfl,u9⟩
      have RL:Hid (AlInv w1 b f len gm (.slice aa l.length ca) (.slice ap ps.length cp) (.int .i64 (c+1:Nat)) w9):=⟨c+1,_,_,_,_,_,_,_,_,_,_,_,rfl,by omega,GN.out.upd0 u9⟩
      clear u9
      go_wp2_with fail
      go_roundg gm
      case measure=>omega
      case rel=>exact RL.out
    ·subst h456
     as_aux_lemma=>
      go_wp2_with fail
      generalize hX:wr.heap.size=X at *
      generalize wr.alloc (.cells #[.int .i64 6,.int .i64 ks,.int .i64 kn,.string tx] 49)=wx at *
      have GN:Hid (AlSt w1 wx b f (c+1) (.slice aa l.length ca) (.slice ap ps.length cp) l ps kS kR n vS vN vR vQ es rs):=GX.out.next
      refine (bStill_any w1.heap.size _ b _ _ _ _ _ _ _ _ _ GN.out.bk (by have:=GN.out.hS;have:=GN.out.hR;have:=tot_mono f (show c+1≤len by omega);omega) (by have:=GN.out.hR;omega)).mono ?_
      rintro e w9 ⟨rfl,u9⟩
      have RL:Hid (AlInv w1 b f len gm (.slice aa l.length ca) (.slice ap ps.length cp) (.int .i64 (c+1:Nat)) w9):=⟨c+1,_,_,_,_,_,_,_,_,_,_,_,rfl,by omega,GN.out.upd0 u9⟩
      clear u9
      go_wp2_with fail
      go_roundg gm
      case measure=>omega
      case rel=>exact RL.out
  ·have hlt':¬ (c:Int) < len:=by omega
   go_wp2_with fail
   go_ret
   exact⟨rfl,UW.out⟩
end Go.Proofs.YtcpfpnjkfahjcaaGreat
