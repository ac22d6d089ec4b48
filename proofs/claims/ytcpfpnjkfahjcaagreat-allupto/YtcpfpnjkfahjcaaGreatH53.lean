/- For every script of steps whose bulk is at most 1048576 the law All answers true, and leaves its argument as it was: streams of several patterns, side by side, their bytes in any pieces: every answer of the program's is the document's, and the lists that come out are their owner's. The condition: the bulk of what comes in. -/
import Derived.Test.YtcpfpnjkfahjcaaGreatH52
import Derived.Test.YtcpfpnjkfahjcaaGreatRows
import Derived.ProofKit
import Derived.OpenShut
import Derived.Stop.Joined
import Derived.JoinedCond
import Derived.Carry
set_option linter.unusedSimpArgs false
set_option linter.unusedVariables false
namespace Go.Proofs.YtcpfpnjkfahjcaaGreat
open Go.ChangeShapes Go.WideShapes Go.ChangeAt Go.WideMaps Go.WideElems Go.RowKit
theorem own:ownKnob Tryz.prog.godebug=none:=by kernel_rfl
theorem laidOut:laidOutB Tryz.prog=true:=by kernel_rfl
theorem Below.of_upd {w w':World} (h:Upd [] w w'):Below w.heap.size w w':=⟨h.os,h.tape,h.output,h.size,fun k hk=>h.block k hk (by simp)⟩
theorem bulk_one {H:Type} {d0:DataW H} (hk:Rows.uptoSmall H [d0]=true):Rows.uptoBulk d0≤1048576:=by
 have h:Rows.uptoBulkAll [d0]≤1048576:=of_decide_eq_true hk
 simp only [Rows.uptoBulkAll] at h
 omega
set_option maxRecDepth 100000 in
theorem all_contract (H:Type) (enc:TypeId×Value→H) (W:World) (base:Nat) (args:Array Value) (ds gs:List (DataW H)) (before:List MemPlace)
  (hval0:∀ (j:Nat) t v,Tryz.f4.params[j]?=some t→args[j]?=some v→Value.okWide Tryz.prog W .any base t v)
  (hW:DataW.Whole enc Tryz.prog Tryz.f4.params.toList Rows.allSpec.vars false W args.toList ds gs before) (hk:Rows.uptoSmall H (ds++gs)=true) :
  Calls Tryz.prog 4 args W fun e W'=>∃ v,e=.returned v∧Rows.allSpec.post enc Tryz.prog Tryz.f4 false true false false W args v W':=by
 have hval:∀ (j:Nat) t v,Tryz.f4.params[j]?=some t→args[j]?=some v→Value.okWide Tryz.prog W .any base t v:=hval0
 have hW':=hW
 obtain⟨p,q,hA0,hV,rfl,hfz,hnd⟩:=hW
 have hA:DataW.TrodAll enc Tryz.prog W 0 (fun _=>true) true Tryz.f4.params.toList args.toList ds p:=hA0
 rw [Tryz.params4] at hA hval
 obtain⟨v0,d0,rfl,rfl,h0⟩:=trodAll_one hA
 obtain⟨rfl,rfl⟩:=trodVars_none hV
 obtain⟨a0,len,cap,rfl⟩:=okWide_slice Tryz.underlying45 (hval 0 45 v0 rfl rfl)
 have h0k:=h0
 obtain⟨fuel,hf⟩:=h0
 clear hA0 hval0
 simp only [List.append_nil] at hW' hk
 have hb1:=bulk_one hk
 have hlt:∀ x∈p,x.block < W.heap.size:=fun x hx=>by simpa using hW'.lt x (by simpa using hx)
 have fin:∀ (e:Ending) (W':World),e=.returned (.bool true)∧Upd [] W W'→∃ v,e=.returned v∧Rows.allSpec.post enc Tryz.prog Tryz.f4 false true false false W #[.slice a0 len cap] v W':=by
  rintro e W' ⟨he,hu⟩
  subst he
  have hb:=Below.of_upd hu
  exact⟨_,rfl,_,_,_,[],p,[],hW',trodAll_mk1 (shut_bool Tryz.underlying4 _),trodAll_mk1 (Below.trod laidOut (by kernel_rfl) (of_decide_eq_true (by kernel_rfl)) h0k hb hlt),rfl,hb.frame _,fun h=>by cases h⟩
 rcases open_ops hf with ⟨hcs,hx⟩|⟨a,len',cap',f,hcs,hl,hcell,hbk⟩
 ·simp [Value.cells] at hcs
  obtain⟨rfl,rfl,rfl⟩:=hcs
  exact (lAll_any none 0 0 0 0 (fun _=>⟨0,0,0,ByteArray.empty⟩) W (by omega) (by simp [tot]) (by omega) (fun h=>by omega) (fun h=>by omega) (fun j hj=>by omega) (fun j hj=>by omega)).mono fin
 ·simp [Value.cells] at hcs
  obtain⟨rfl,rfl,rfl⟩:=hcs
  have hbk':tot f len+len≤1048576:=Nat.le_trans hbk hb1
  by_cases hl0:len=0
  ·subst hl0
   exact (lAll_any (some a) 0 0 0 cap f W (by omega) (by simp [tot]) (by omega) (fun h=>by omega) (fun h=>by omega) (fun j hj=>by omega) (fun j hj=>by omega)).mono fin
  ·obtain⟨b,off,spot⟩:=a
   have hspot:spot=none:=by simpa [Addr.add] using World.cell?_spot (hcell 0 (by omega)).1
   subst hspot
   have hbW:b < W.heap.size:=by
    have h:=(hcell 0 (by omega)).1
    rcases Nat.lt_or_ge b W.heap.size with q|q
    ·exact q
    ·exfalso
     rw [add_plain] at h
     simp [World.cell?,Array.getElem?_eq_none q] at h
   exact (lAll_any (some ⟨b,off,none⟩) b off len cap f W (by omega) (by omega) hl (fun _=>rfl) (fun _=>hbW) (fun j hj=>(hcell j hj).2.2.2.2) (fun j hj=>by
    obtain⟨c0,c1,c2,c3,_⟩:=hcell j hj
    rw [add_plain] at c0 c1 c2 c3
    rw [add_plain] at c1 c2 c3
    exact⟨c0,c1,c2,c3⟩)).mono fin
set_option maxRecDepth 100000 in
theorem all_lifted (os:Os) (started:os.Started) (H:Type) (enc:TypeId×Value→H) (F:Stop.Interp) :
  ReturnsInHanded {} Tryz.checked os 4 .any ((Rows.OpenSpec.upto Rows.allSpec).pre6 enc Tryz.prog Tryz.f4 Rows.allUptoRow.domain false) (((Rows.OpenSpec.upto Rows.allSpec).at F).post enc Tryz.prog Tryz.f4 false true false false):=by
 refine returnsInHanded_of_cond (C:=Tryz.checked) (s:=Rows.OpenSpec.upto Rows.allSpec) (k:=Rows.uptoSmall) rfl own started (by kernel_rfl) Tryz.func4
  (OpenSpec.witness (enc:=enc) (C:=Tryz.checked) (s:=Rows.OpenSpec.upto Rows.allSpec) (k:=Rows.uptoSmall) rfl false ⟨#[],#[.slice none 0 0],[]⟩ 8 (by kernel_rfl) (by kernel_rfl) (by kernel_rfl)
   (x:=([.nil],[],[])) (by kernel_rfl) rfl (by kernel_rfl)) ?_
 intro W base args ds gs before hval hW _ hk _
 exact all_contract H enc W base args ds gs before hval hW hk
theorem all_holds:Rows.AllUptoSaid:=
 OpenClaim.holds_of_cond 4 Tryz.f4 rfl rfl rfl rfl rfl rfl rfl ⟨rfl,rfl,rfl,rfl,rfl⟩ rfl rfl rfl rfl rfl (by kernel_rfl) Tryz.func4 (by kernel_rfl)
  (of_decide_eq_true (by kernel_rfl)) (by unfold Func.isWrapper;first|(rw [if_pos (by decide +kernel)];kernel_rfl)|(rw [if_neg (by decide +kernel)];exact⟨rfl,rfl⟩))
  (fun os started H enc _ F=>all_lifted os started H enc F)
#print axioms all_holds
end Go.Proofs.YtcpfpnjkfahjcaaGreat
