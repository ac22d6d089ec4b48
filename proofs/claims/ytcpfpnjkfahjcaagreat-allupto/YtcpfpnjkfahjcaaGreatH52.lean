import Derived.Test.YtcpfpnjkfahjcaaGreatH51
import Derived.ChangeSame
import Derived.ChangeSlices
import Derived.ProofKit
import Derived.OpenShut
set_option linter.unusedSimpArgs false
set_option linter.unusedVariables false
namespace Go.Proofs.YtcpfpnjkfahjcaaGreat
open Go.ChangeShapes Go.WideShapes Go.ChangeAt Go.WideMaps Go.WideElems Go.RowKit
section
variable {H:Type} {enc:TypeId×Value→H} {P:Program} {w:World} {base:Nat} {spare:Nat→Bool} {held:Bool}
theorem trod_struct4 {t:TypeId} {f0 f1 f2 f3:Field} {fuel:Nat} {cs:List Value} {x:DataW H×List MemPlace} (ht:P.underlying t=some (.struct #[f0,f1,f2,f3])) (h:DataW.trod enc P w base spare held fuel t cs=some x) :
  ∃ y0 y1 y2 y3 n,x.1=.agg [y0.1,y1.1,y2.1,y3.1]∧cs.length=P.cellsOf t∧DataW.trod enc P w base spare held n f0.type ((cs.drop f0.offset).take (P.cellsOf f0.type))=some y0∧
   DataW.trod enc P w base spare held n f1.type ((cs.drop f1.offset).take (P.cellsOf f1.type))=some y1∧DataW.trod enc P w base spare held n f2.type ((cs.drop f2.offset).take (P.cellsOf f2.type))=some y2∧DataW.trod enc P w base spare held n f3.type ((cs.drop f3.offset).take (P.cellsOf f3.type))=some y3:=by
 obtain⟨xs,n,_,rfl,hl,hlen,hf⟩:=DataW.trod_struct ht h
 match xs,hlen with
 | [y0,y1,y2,y3],_=>exact⟨y0,y1,y2,y3,n,by simp,hl,by simpa using hf 0 f0 rfl,by simpa using hf 1 f1 rfl,by simpa using hf 2 f2 rfl,by simpa using hf 3 f3 rfl⟩
end
theorem tot_cons (g:Nat→Opv):∀ n,tot g (n+1)=(g 0).t.size+tot (fun i=>g (i+1)) n
 | 0=>by simp [tot]
 | n+1=>by
  have h:=tot_cons g n
  show tot g (n+1)+(g (n+1)).t.size=_
  rw [h]
  show _=(g 0).t.size+(tot (fun i=>g (i+1)) n+(g (n+1)).t.size)
  omega
theorem bulk_ops {H:Type}:∀ (l:List (DataW H)) (g:Nat→Opv),(∀ (i:Nat) d,l[i]?=some d→(g i).t.size+1≤Rows.uptoBulk d)→tot g l.length+l.length≤Rows.uptoBulkAll l
 | [],g,_=>by simp [tot,Rows.uptoBulkAll]
 | d::r,g,h=>by
  have h0:=h 0 d rfl
  have ih:=bulk_ops r (fun i=>g (i+1)) (fun i d hd=>h (i+1) d (by simpa using hd))
  rw [List.length_cons,tot_cons,Rows.uptoBulkAll]
  omega
theorem cellsOp:Tryz.prog.cellsOf 49=4:=by kernel_rfl
theorem cellsInt:Tryz.prog.cellsOf 3=1:=by kernel_rfl
theorem cellsStr:Tryz.prog.cellsOf 9=1:=by kernel_rfl
theorem list4 {l:List Value} (h:l.length=4):∃ a b c d,l=[a,b,c,d]:=by
 match l,h with
 | [a,b,c,d],_=>exact⟨a,b,c,d,rfl⟩
theorem open_op {H:Type} {enc:TypeId×Value→H} {w:World} {base:Nat} {spare:Nat→Bool} {held:Bool} {a:Addr} {n:Nat} {y:DataW H×List MemPlace} (h:(w.cells? base a 4).bind (DataW.trod enc Tryz.prog w base spare held n 49)=some y):∃ v:Opv,w.cell? a=some (.int .i64 v.k)∧w.cell? (a.add 1)=some (.int .i64 v.s)∧w.cell? (a.add 2)=some (.int .i64 v.n)∧w.cell? (a.add 3)=some (.string v.t)∧(-9223372036854775808≤v.s∧v.s≤9223372036854775807)∧v.t.size+1≤Rows.uptoBulk y.1:=by
 rw [Option.bind_eq_some_iff] at h
 obtain⟨cs,hcs,hy⟩:=h
 obtain⟨y0,y1,y2,y3,m,hx,hl,h0,h1,h2,h3⟩:=trod_struct4 Tryz.underlying49 hy
 rw [cellsOp] at hl
 obtain⟨c0,c1,c2,c3,rfl⟩:=list4 hl
 have hc:=(World.cells?_some hcs).2.2
 simp only [cellsInt,cellsStr] at h0 h1 h2 h3
 obtain⟨k0,e0,q0,b0⟩:=DataW.trod_int Tryz.underlying3 (show DataW.trod enc Tryz.prog w base spare held m 3 [c0]=some y0 from h0)
 obtain⟨k1,e1,q1,b1⟩:=DataW.trod_int Tryz.underlying3 (show DataW.trod enc Tryz.prog w base spare held m 3 [c1]=some y1 from h1)
 obtain⟨k2,e2,q2,b2⟩:=DataW.trod_int Tryz.underlying3 (show DataW.trod enc Tryz.prog w base spare held m 3 [c2]=some y2 from h2)
 obtain⟨s3,e3,q3,b3⟩:=DataW.trod_string Tryz.underlying9 (show DataW.trod enc Tryz.prog w base spare held m 9 [c3]=some y3 from h3)
 injection e0 with e0
 injection e1 with e1
 injection e2 with e2
 injection e3 with e3
 subst e0 e1 e2 e3
 have w0:=hc 0 (by omega)
 have w1:=hc 1 (by omega)
 have w2:=hc 2 (by omega)
 have w3:=hc 3 (by omega)
 have ea:a.add 0=a:=by simp [Addr.add]
 rw [ea] at w0
 refine⟨⟨k0,k1,k2,s3⟩,w0,w1,w2,w3,?_,?_⟩
 ·have hb:(Lit.int .i64 k1).wf=true:=b1
  simp only [Lit.wf,Bool.and_eq_true,decide_eq_true_eq] at hb
  have hmin:IntKind.i64.min=-9223372036854775808:=rfl
  have hmax:IntKind.i64.max=9223372036854775807:=rfl
  rw [hmin,hmax] at hb
  exact hb
 ·rw [hx,q3]
  simp only [Rows.uptoBulk,Rows.uptoBulkAll]
  have:s3.data.toList.length=s3.size:=by rw [Array.length_toList];rfl
  show s3.size+1≤_
  omega
theorem open_ops {H:Type} {enc:TypeId×Value→H} {w:World} {base:Nat} {spare:Nat→Bool} {held:Bool} {fuel:Nat} {cs:List Value} {x:DataW H×List MemPlace} (h:DataW.trod enc Tryz.prog w base spare held fuel 45 cs=some x) :
  (cs=[.slice none 0 0]∧x=(.nil,[]))∨∃ (a:Addr) (len cap:Nat) (f:Nat→Opv),cs=[.slice (some a) len cap]∧len≤cap∧(∀ j,j < len→w.cell? (a.add (j * 4))=some (.int .i64 (f j).k)∧w.cell? ((a.add (j * 4)).add 1)=some (.int .i64 (f j).s)∧w.cell? ((a.add (j * 4)).add 2)=some (.int .i64 (f j).n)∧w.cell? ((a.add (j * 4)).add 3)=some (.string (f j).t)∧(-9223372036854775808≤(f j).s∧(f j).s≤9223372036854775807))∧tot f len+len≤Rows.uptoBulk x.1:=by
 rcases DataW.trod_slice Tryz.underlying45 h with h0|⟨a,len,cap,elems,rest,n,_,rfl,rfl,hb,hl,hm,hlen,hel,hsp,hns⟩
 ·exact Or.inl h0
 right
 rw [cellsOp] at hel
 have hch:∀ j:Nat,∃ v:Opv,j < len→(w.cell? (a.add (j * 4))=some (.int .i64 v.k)∧w.cell? ((a.add (j * 4)).add 1)=some (.int .i64 v.s)∧w.cell? ((a.add (j * 4)).add 2)=some (.int .i64 v.n)∧w.cell? ((a.add (j * 4)).add 3)=some (.string v.t)∧(-9223372036854775808≤v.s∧v.s≤9223372036854775807))∧∀ y,elems[j]?=some y→v.t.size+1≤Rows.uptoBulk y.1:=fun j=>by
  by_cases hj:j < len
  ·have hy:elems[j]?=some (elems[j]'(by omega)):=List.getElem?_eq_getElem _
   have e:=hel j hj
   rw [hy] at e
   obtain⟨v,v0,v1,v2,v3,v4,v5⟩:=open_op e
   exact⟨v,fun _=>⟨⟨v0,v1,v2,v3,v4⟩,fun y hy2=>by rw [hy] at hy2;injection hy2 with hy2;rw [← hy2];exact v5⟩⟩
  ·exact⟨⟨0,0,0,ByteArray.empty⟩,fun h=>absurd h hj⟩
 obtain⟨f,hf⟩:=Classical.axiomOfChoice hch
 refine⟨a,len,cap,f,rfl,hl,fun j hj=>(hf j hj).1,?_⟩
 have hbk:=bulk_ops (elems.map (·.1)) f (fun i d hd=>by
  rw [List.getElem?_map] at hd
  cases hy:elems[i]? with
  | none=>rw [hy] at hd;cases hd
  | some y=>
   rw [hy] at hd
   have hi:i < len:=by rw [← hlen];exact (List.getElem?_eq_some_iff.mp hy).1
   have:=(hf i hi).2 y hy
   simp only [Option.map_some,Option.some.injEq] at hd
   rw [← hd];exact this)
 rw [List.length_map,hlen] at hbk
 simp only [Rows.uptoBulk]
 omega
end Go.Proofs.YtcpfpnjkfahjcaaGreat
