import Derived.Test.YtcpfpnjkfahjcaaGreatH25
import Derived.Test.YtcpfpnjkfahjcaaGreatH39
set_option linter.unusedSimpArgs false
set_option linter.unusedVariables false
namespace Go.Proofs.YtcpfpnjkfahjcaaGreat
open Go.RowKit
def flat (n:Nat) (f:Nat→Int×Int):List Value:=(spArr n f).toList
theorem flat_length (n:Nat) (f:Nat→Int×Int):(flat n f).length=n * 2:=by unfold flat;rw [Array.length_toList,spArr_size];omega
theorem flat_get (n:Nat) (f:Nat→Int×Int) (i:Nat):(flat n f)[i]?=if i < 2 * n then some (if i % 2=0 then .int .i64 (f (i / 2)).1 else .int .i64 (f (i / 2)).2) else none:=by
 unfold flat;rw [Array.getElem?_toList,spArr_get]
theorem flat_congr {n:Nat} {f g:Nat→Int×Int} (h:∀ k,k < n→f k=g k):flat n f=flat n g:=by unfold flat;rw [spArr_congr h]
theorem flat_cons (n:Nat) (f:Nat→Int×Int):flat (n+1) f=.int .i64 (f 0).1::.int .i64 (f 0).2::flat n (fun k=>f (k+1)):=by
 apply List.ext_getElem?
 intro i
 match i with
 | 0=>rw [flat_get,if_pos (by omega)];rfl
 | 1=>rw [flat_get,if_pos (by omega)];rfl
 | i+2=>
  rw [List.getElem?_cons_succ,List.getElem?_cons_succ,flat_get,flat_get]
  by_cases h:i < 2 * n
  ·rw [if_pos h,if_pos (by omega),show (i+2) / 2=i / 2+1 by omega,show (i+2) % 2=i % 2 by omega]
  ·rw [if_neg h,if_neg (by omega)]
theorem flat_append (n m:Nat) (f g:Nat→Int×Int):flat n f++flat m g=flat (n+m) (fun k=>if k < n then f k else g (k - n)):=by
 apply List.ext_getElem?
 intro i
 by_cases h:i < 2 * n
 ·rw [List.getElem?_append_left (by rw [flat_length];omega),flat_get,flat_get,if_pos h,if_pos (show i < 2 * (n+m) by omega)]
  have:i / 2 < n:=by omega
  simp only [this,if_true]
 ·rw [List.getElem?_append_right (by rw [flat_length];omega),flat_length,flat_get,flat_get]
  by_cases h2:i - n * 2 < 2 * m
  ·rw [if_pos h2,if_pos (show i < 2 * (n+m) by omega),show (i - n * 2) % 2=i % 2 by omega,show (i - n * 2) / 2=i / 2 - n by omega]
   have:¬ i / 2 < n:=by omega
   simp only [this,if_false]
  ·rw [if_neg h2,if_neg (show ¬ i < 2 * (n+m) by omega)]
theorem flat_zero (f:Nat→Int×Int):flat 0 f=[]:=List.eq_nil_of_length_eq_zero (by rw [flat_length])
theorem flat_one (a b:Int):flat 1 (fun _=>(a,b))=[.int .i64 a,.int .i64 b]:=by rw [flat_cons,flat_zero]
def SpL (w:World) (v:Value) (n:Nat) (f:Nat→Int×Int):Prop:=w.ownsRow 0 66 2 v n (flat n f)
theorem SpansAt.own {w:World} {g n:Nat} {f:Nat→Int×Int} (h:SpansAt w g n f) (hn:n≤1000):SpL w (spansV g n) n f:=
 ⟨flat_length n f,Or.inr ⟨g,n,spArr n f,rfl,Nat.zero_le _,h,Nat.le_refl _,by show n≤maxLen;unfold maxLen;omega,by rw [spArr_size];omega,List.take_of_length_le (by rw [Array.length_toList,spArr_size];omega)⟩⟩
theorem SpL.nil (w:World) (f:Nat→Int×Int):SpL w (.slice none 0 0) 0 f:=⟨flat_length 0 f,Or.inl ⟨rfl,rfl⟩⟩
theorem SpL.form {w:World} {v:Value} {n:Nat} {f:Nat→Int×Int} (h:SpL w v n f):(v=.slice none 0 0∧n=0)∨∃ g cap,v=.slice (some ⟨g,0,none⟩) n cap∧g < w.heap.size∧(∀ k,k < n→w.cell? ⟨g,k * 2,none⟩=some (.int .i64 (f k).1))∧(∀ k,k < n→w.cell? ⟨g,k * 2+1,none⟩=some (.int .i64 (f k).2)):=by
 rcases h.2 with q|⟨g,cap,cur,h1,_,h2,h3,h4,h5,h6⟩
 ·exact Or.inl q
 ·right
  have key:∀ i,i < n * 2→cur[i]?=(flat n f)[i]?:=fun i hi=>by
   rw [← h6,List.getElem?_take_of_lt hi,Array.getElem?_toList]
  refine⟨g,cap,h1,lt_of_heap h2,fun k hk=>?_,fun k hk=>?_⟩
  ·have e:=key (k * 2) (by omega)
   rw [flat_get,if_pos (by omega),if_pos (by omega),show k * 2 / 2=k by omega] at e
   simp [World.cell?,h2,e]
  ·have e:=key (k * 2+1) (by omega)
   rw [flat_get,if_pos (by omega),if_neg (by omega),show (k * 2+1) / 2=k by omega] at e
   simp [World.cell?,h2,e]
theorem eqSpan (a b c d:Int) (w:World):(Op.equalIn 10000 66 (.agg #[.int .i64 a,.int .i64 b]) (.agg #[.int .i64 c,.int .i64 d])).run Tryz.prog w=.ok (decide ((a,b)=(c,d))) w:=by
 have hS:Tryz.prog.underlying 66=some (.struct (Tryz.prog.fieldsOf 66)):=by kernel_rfl
 have hp:Tryz.prog.stoodInHeld 66=false:=by kernel_rfl
 have u2:=Tryz.underlying3
 rw [show 10000=9999+1 from rfl,run_equalIn_agg w 9999 66 _ _ hS hp]
 simp only [Program.fieldsOf,Tryz.underlying66]
 go_simp
 try simp only [Result.andThen]
 by_cases h1:a=c<;>by_cases h2:b=d<;>simp [h1,h2]
theorem neqSpan (a b c d:Int) (w:World):(binOp .neq 66 (.agg #[.int .i64 a,.int .i64 b]) (.agg #[.int .i64 c,.int .i64 d])).run Tryz.prog w=.ok (.bool (!decide ((a,b)=(c,d)))) w:=by
 rw [run_neq_struct,eqSpan];rfl
def sameB (n:Nat) (f:Nat→Int×Int) (m:Nat) (g:Nat→Int×Int):Bool:=n == m && (List.range n).all fun k=>f k == g k
theorem sameB_iff (n:Nat) (f:Nat→Int×Int) (m:Nat) (g:Nat→Int×Int):sameB n f m g=true↔n=m∧∀ k,k < n→f k=g k:=by
 unfold sameB;simp
theorem drewN2 (w:World) (a b:Nat):(w.drewN a).drewN b=w.drewN (a+b):=by cases w;simp [World.drewN,Nat.add_assoc]
structure SmInv (w:World) (n:Nat) (f g:Nat→Int×Int) (gn:Nat) (v:Value) (wr:World):Prop where
 st:∃ c:Nat,v=.int .i64 c∧c+gn=n∧(∀ k,k < c→f k=g k)∧∃ q,wr=w.drewN q
set_option maxHeartbeats 800000 in
theorem same_any (va vb:Value) (n m:Nat) (f g:Nat→Int×Int) (w:World) (ha:SpL w va n f) (hb:SpL w vb m g) (hn:n≤1000) (hm:m≤1000) :
  Calls Tryz.prog 10 #[va,vb] w fun e w'=>e=.returned (.bool (sameB n f m g))∧∃ q,w'=w.drewN q:=by
 have key:∀ (pa pb:Option Addr) (ca cb:Nat),va=.slice pa n ca→vb=.slice pb m cb→(n≠m)→Calls Tryz.prog 10 #[va,vb] w fun e w'=>e=.returned (.bool (sameB n f m g))∧∃ q,w'=w.drewN q:=by
  intro pa pb ca cb e1 e2 hne
  subst e1 e2
  have HR:Hid (sameB n f m g=false):=by
   show _=_
   cases hs:sameB n f m g with
   | false=>rfl
   | true=>exact absurd ((sameB_iff _ _ _ _).mp hs).1 hne
  have hne':¬ (n:Int)=m:=by omega
  clear ha hb
  go_enter Tryz.func10,Tryz.ntmps10
  go_wp2_with fail
  go_ret
  exact⟨ret_bool HR.out.symm,0,rfl⟩
 by_cases hnm:n=m
 ·subst hnm
  by_cases h0:n=0
  ·subst h0
   obtain⟨pa,ca,e1⟩:∃ pa ca,va=.slice pa 0 ca:=by
    rcases ha.form with ⟨h,_⟩|⟨x,c,h,_⟩
    ·exact⟨none,0,h⟩
    ·exact⟨_,c,h⟩
   obtain⟨pb,cb,e2⟩:∃ pb cb,vb=.slice pb 0 cb:=by
    rcases hb.form with ⟨h,_⟩|⟨x,c,h,_⟩
    ·exact⟨none,0,h⟩
    ·exact⟨_,c,h⟩
   subst e1 e2
   clear ha hb key
   go_enter Tryz.func10,Tryz.ntmps10
   go_wp2_with fail
   refine wp_loop_rounds 1 ?_
   rw [rounds_succ]
   go_wp2_with fail
   go_ret
   exact⟨ret_bool (by simp [sameB]),0,rfl⟩
  ·rcases ha.form with ⟨_,h⟩|⟨x,ca,e1,hx,a0,a1⟩
   ·omega
   rcases hb.form with ⟨_,h⟩|⟨y,cb,e2,hy,b0,b1⟩
   ·omega
   subst e1 e2
   clear ha hb key
   have HA0:Hid (∀ k,k < n→w.cell? ⟨x,k * 2,none⟩=some (.int .i64 (f k).1)):=a0
   have HA1:Hid (∀ k,k < n→w.cell? ⟨x,k * 2+1,none⟩=some (.int .i64 (f k).2)):=a1
   have HB0:Hid (∀ k,k < n→w.cell? ⟨y,k * 2,none⟩=some (.int .i64 (g k).1)):=b0
   have HB1:Hid (∀ k,k < n→w.cell? ⟨y,k * 2+1,none⟩=some (.int .i64 (g k).2)):=b1
   clear a0 a1 b0 b1
   go_enter Tryz.func10,Tryz.ntmps10
   go_wp2_with fail
   go_loopg [5] n (fun gn v wr=>SmInv w n f g gn v wr)
   case atStart=>exact⟨0,rfl,by omega,by omega,0,rfl⟩
   case round=>
    obtain⟨c,rfl,hc,hcs,q,rfl⟩:=hrel.st
    have HC:Hid (∀ k,k < c→f k=g k):=hcs
    clear hcs
    by_cases hlt:c < n
    ·have hlt':(c:Int) < n:=by omega
     have r0:=HA0.out c hlt
     have r1:=HA1.out c hlt
     have r2:=HB0.out c hlt
     have r3:=HB1.out c hlt
     have ne:∀ w',(binOp .neq 66 (.agg #[.int .i64 (f c).1,.int .i64 (f c).2]) (.agg #[.int .i64 (g c).1,.int .i64 (g c).2])).run Tryz.prog w'=.ok (.bool (!decide (f c=g c))) w':=fun w'=>neqSpan _ _ _ _ w'
     go_wp2_with fail
     go_quiet (fail)
     obtain⟨gm,hgm⟩:∃ k,gk=k+1:=⟨gk - 1,by omega⟩
     by_cases heq:f c=g c
     ·have hd:(!decide (f c=g c))=false:=by simp [heq]
      have RL:Hid (SmInv w n f g gm (.int .i64 ((c+1:Nat):Int)) (w.drewN (q+nq))):=⟨c+1,rfl,by omega,fun k hk=>by
       rcases (by omega:k=c∨k < c) with r|r
       ·rw [r];exact heq
       ·exact HC.out k r,q+nq,rfl⟩
      rw [hd]
      clear hd heq ne
      go_wp2_with fail
      go_roundg gm
      case measure=>omega
      case rel=>exact RL.out
     ·have hd:(!decide (f c=g c))=true:=by simp [heq]
      have HR:Hid (sameB n f n g=false):=by
       show _=_
       cases hs:sameB n f n g with
       | false=>rfl
       | true=>exact absurd (((sameB_iff _ _ _ _).mp hs).2 c hlt) heq
      rw [hd]
      clear hd heq ne
      go_wp2_with fail
      go_ret
      exact⟨ret_bool HR.out.symm,q+nq,drewN2 _ _ _⟩
    ·have hlt':¬ (c:Int) < n:=by omega
     have HR:Hid (sameB n f n g=true):=(sameB_iff _ _ _ _).mpr ⟨rfl,fun k hk=>HC.out k (by omega)⟩
     go_wp2_with fail
     go_ret
     exact⟨ret_bool HR.out.symm,q,rfl⟩
 ·obtain⟨pa,ca,e1⟩:∃ pa ca,va=.slice pa n ca:=by
   rcases ha.form with ⟨h,h'⟩|⟨x,c,h,_⟩
   ·exact⟨none,0,by rw [h,h']⟩
   ·exact⟨_,c,h⟩
  obtain⟨pb,cb,e2⟩:∃ pb cb,vb=.slice pb m cb:=by
   rcases hb.form with ⟨h,h'⟩|⟨x,c,h,_⟩
   ·exact⟨none,0,by rw [h,h']⟩
   ·exact⟨_,c,h⟩
  exact key pa pb ca cb e1 e2 hnm
theorem rComp_yes (s:ByteArray) (t:Tr) (n:Int) (w:World) (hr:Sp.read s=.ok (t,n)):Calls Tryz.prog 7 #[.string s] w fun e w'=>∃ p,e=.returned (.tuple #[.pointer (some ⟨p,0,none⟩),.int .i64 0,.int .i64 0])∧w.heap.size≤p∧RfPat w' p s t n.toNat∧Upd [] w w':=by
 refine (refCompile s w).mono ?_
 rintro e w' ⟨u,h⟩
 rw [hr] at h
 obtain⟨p,h1,h2,h3⟩:=h
 have hn:=Sp.read_num hr
 have h9:=(Sp.read_choice hr).2.2.2
 have en:((n.toNat:Nat):Int)=n:=by omega
 obtain⟨E,k,_,_,hk,_⟩:=Sp.read_means hr ByteArray.empty
 obtain⟨g,cap,hrf,_⟩:=h3.rf (by omega)
 have hm:=Sp.comp_most (Sp.read_made hr).1 (by have:=Sp.read_nods hr;omega)
 rw [Sp.read_told hr] at hrf
 exact⟨p,h1,h2,⟨by rw [en];exact hr,by omega,⟨g,cap,by rw [en];exact hrf⟩,by omega⟩,u⟩
theorem rComp_no (s:ByteArray) (e1 a1:Int) (w:World) (hr:Sp.read s=.error (e1,a1)):Calls Tryz.prog 7 #[.string s] w fun e w'=>e=.returned (.tuple #[.pointer none,.int .i64 e1,.int .i64 a1])∧Upd [] w w':=by
 refine (refCompile s w).mono ?_
 rintro e w' ⟨u,h⟩
 rw [hr] at h
 exact⟨h,u⟩
theorem sComp_yes (s:ByteArray) (t:Tr) (n:Int) (w:World) (hr:Sp.read s=.ok (t,n)):Calls Tryz.prog 6 #[.string s] w fun e w'=>∃ p,e=.returned (.tuple #[.pointer (some ⟨p,0,none⟩),.int .i64 0,.int .i64 0])∧w.heap.size≤p∧PatAt w' p t n.toNat∧Upd [] w w':=by
 refine (comp_any s w).mono ?_
 rintro e w' ⟨u,h⟩
 rw [hr] at h
 obtain⟨p,h1,h2,h3⟩:=h
 exact⟨p,h1,h2,h3,u⟩
theorem sComp_no (s:ByteArray) (e1 a1:Int) (w:World) (hr:Sp.read s=.error (e1,a1)):Calls Tryz.prog 6 #[.string s] w fun e w'=>e=.returned (.tuple #[.pointer none,.int .i64 e1,.int .i64 a1])∧Upd [] w w':=by
 refine (comp_any s w).mono ?_
 rintro e w' ⟨u,h⟩
 rw [hr] at h
 exact⟨h,u⟩
set_option maxRecDepth 8000 in
set_option maxHeartbeats 800000 in
theorem rMatch_long (p:Nat) (S:ByteArray) (w:World) (hS:100 < S.size):Calls Tryz.prog 9 #[.pointer (some ⟨p,0,none⟩),.string S] w fun e w'=>e=.returned (.tuple #[.slice none 0 0,.int .i64 2])∧Upd [] w w':=by
 have hS':(100:Int) < S.size:=by omega
 go_enter Tryz.func9,Tryz.ntmps9
 go_wp2_with fail
 go_ret2
 exact⟨rfl,Upd.refl _ _⟩
set_option maxRecDepth 8000 in
set_option maxHeartbeats 800000 in
theorem rMatch_nil (S:ByteArray) (w:World):Calls Tryz.prog 9 #[.pointer none,.string S] w fun e w'=>e=.returned (.tuple #[.slice none 0 0,.int .i64 1])∧Upd [] w w':=by
 go_enter Tryz.func9,Tryz.ntmps9
 go_wp2_with fail
 go_ret2
 exact⟨rfl,Upd.refl _ _⟩
set_option maxRecDepth 8000 in
set_option maxHeartbeats 800000 in
theorem refuses_not (v:Option Addr) (S:ByteArray) (w:World) (h:(∃ p,v=some ⟨p,0,none⟩∧100 < S.size)∨v=none):Calls Tryz.prog 25 #[.pointer v,.string S] w fun e w'=>e=.returned (.int .i64 (if v.isNone then 1 else 2))∧w'=w:=by
 rcases h with ⟨p,rfl,hS⟩|rfl
 ·have hS':(100:Int) < S.size:=by omega
  go_enter Tryz.func25,Tryz.ntmps25
  go_wp2_with fail
  go_ret
  exact⟨rfl,rfl⟩
 ·go_enter Tryz.func25,Tryz.ntmps25
  go_wp2_with fail
  go_ret
  exact⟨rfl,rfl⟩
set_option maxRecDepth 8000 in
set_option maxHeartbeats 800000 in
theorem sMatch_not (v:Option Addr) (S:ByteArray) (w:World) (h:(∃ p,v=some ⟨p,0,none⟩∧100 < S.size)∨v=none):Calls Tryz.prog 8 #[.pointer v,.string S] w fun e w'=>e=.returned (.tuple #[.slice none 0 0,.int .i64 (if v.isNone then 1 else 2)])∧Upd [] w w':=by
 have H:Hid ((∃ p,v=some ⟨p,0,none⟩∧100 < S.size)∨v=none):=h
 clear h
 have hne:¬ ((if v.isNone then (1:Int) else 2)=0):=by split<;>decide
 obtain⟨c,hc⟩:∃ c,c=(if v.isNone then (1:Int) else 2):=⟨_,rfl⟩
 have HC:Hid (c=(if v.isNone then (1:Int) else 2)):=hc
 rw [← hc] at hne ⊢
 clear hc
 go_enter Tryz.func8,Tryz.ntmps8
 go_wp2_with fail
 refine (refuses_not v S _ H.out).mono ?_
 rintro e w1 ⟨rfl,rfl⟩
 rw [← HC.out]
 go_wp2_with fail
 go_ret2
 exact⟨rfl,Upd.refl _ _⟩
set_option maxRecDepth 8000 in
set_option maxHeartbeats 800000 in
theorem sLongest_not (v:Option Addr) (S:ByteArray) (w:World) (h:(∃ p,v=some ⟨p,0,none⟩∧100 < S.size)∨v=none):Calls Tryz.prog 12 #[.pointer v,.string S] w fun e w'=>e=.returned (.tuple #[.int .i64 0,.slice none 0 0,.int .i64 (if v.isNone then 1 else 2)])∧Upd [] w w':=by
 have H:Hid ((∃ p,v=some ⟨p,0,none⟩∧100 < S.size)∨v=none):=h
 clear h
 have hne:¬ ((if v.isNone then (1:Int) else 2)=0):=by split<;>decide
 obtain⟨c,hc⟩:∃ c,c=(if v.isNone then (1:Int) else 2):=⟨_,rfl⟩
 have HC:Hid (c=(if v.isNone then (1:Int) else 2)):=hc
 rw [← hc] at hne ⊢
 clear hc
 go_enter Tryz.func12,Tryz.ntmps12
 go_wp2_with fail
 refine (refuses_not v S _ H.out).mono ?_
 rintro e w1 ⟨rfl,rfl⟩
 rw [← HC.out]
 go_wp2_with fail
 go_ret3
 exact⟨rfl,Upd.refl _ _⟩
end Go.Proofs.YtcpfpnjkfahjcaaGreat
