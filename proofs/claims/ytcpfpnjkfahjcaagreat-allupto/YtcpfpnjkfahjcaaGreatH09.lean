import Derived.Test.YtcpfpnjkfahjcaaGreatH08
import Derived.Test.YtcpfpnjkfahjcaaGreatH01
set_option linter.unusedSimpArgs false
set_option linter.unusedVariables false
namespace Go.Proofs.YtcpfpnjkfahjcaaGreat
open Go.RowKit
theorem Sp.read_made {s:ByteArray} {t:Tr} {n:Int} (h:Sp.read s=.ok (t,n)):Sp.Made [t]:=by
 unfold Sp.read at h
 split at h
 ·cases h
 ·rename_i hz
  cases h1:Sp.choice s 9 ⟨0,0⟩ with
  | error f=>simp [h1] at h
  | ok v=>
   obtain⟨t',y⟩:=v
   simp only [h1] at h
   split at h
   ·cases h
   ·split at h
    ·cases h
    ·cases h;exact Sp.choice_makes s (by omega) 9 _ _ _ h1 (by simp) (by simp) (by simp)
def PpAt (w:World) (p root:Nat) (n:Int):Prop:=w.heap[p]?=some (.cells #[ptr root,.int .i64 n] 73 (0,0))
theorem PpAt.new {w:World} {p root:Nat} {n:Int} {c:Array Value} (hc:c=#[ptr root,.int .i64 n]) (hp:p=w.heap.size):PpAt (w.alloc (.cells c 73)) p root n:=by
 subst hc hp;show (w.heap.push _)[w.heap.size]?=_;simp
def PCompileOut (s:ByteArray) (w:World) (e:Ending) (w':World):Prop:=Upd [] w w'∧match Sp.read s with
 | .ok (t,n)=>∃ p root,e=.returned (.tuple #[.pointer (some ⟨p,0,none⟩),.int .i64 0,.int .i64 0])∧w.heap.size≤p∧PpAt w' p root n∧NodesAt w' (fun k=>w.heap.size≤k∧k < w'.heap.size∧k≠p) [root] [t]
 | .error (e1,a1)=>e=.returned (.tuple #[.pointer none,.int .i64 e1,.int .i64 a1])
set_option maxHeartbeats 800000 in
theorem sCompile_any (s:ByteArray) (w:World) :
  Calls Tryz.prog 6 #[.string s] w (PCompileOut s w):=by
 cases hr:Sp.read s with
 | error p=>
  obtain⟨e1,a1⟩:=p
  have he:e1≠0:=Sp.read_code hr
  have hb:(e1 != 0)=true:=by simpa using he
  have HR:Hid (Sp.read s=.error (e1,a1)):=hr
  clear hr he
  unfold PCompileOut
  rw [HR.out]
  go_enter Tryz.func6,Tryz.ntmps6
  go_wp2_with fail
  refine (pRead_any s _).mono ?_
  rw [HR.out]
  rintro e w1 ⟨hu1,rfl⟩
  have HU1:Hid (Upd [] w w1):=hu1
  clear hu1
  go_wp2_with fail
  go_quiet (fail)
  go_wp2_with fail
  go_ret3
  exact⟨by refine HU1.out.trans ?_;(repeat (first|exact Upd.refl _ _|refine Upd.drewN ?_|refine Upd.drew ?_|refine Upd.setCell ?_ (by simp) _|refine Upd.alloc ?_ _)),rfl⟩
 | ok p=>
  obtain⟨t,n⟩:=p
  have HR:Hid (Sp.read s=.ok (t,n)):=hr
  clear hr
  unfold PCompileOut
  rw [HR.out]
  go_enter Tryz.func6,Tryz.ntmps6
  go_wp2_with fail
  refine (pRead_any s _).mono ?_
  rw [HR.out]
  rintro e w1 ⟨hu1,p,rfl,hn1⟩
  have HU1:Hid (Upd [] w w1):=hu1
  have HN1:Hid (NodesAt w1 (fun k=>w.heap.size≤k∧k < w1.heap.size) [p] [t]):=NodesAt.mono _ _ hn1 (fun k h1 hk=>⟨h1,hk⟩)
  have hsz:=hu1.size
  clear hu1 hn1
  unfold ptr
  go_wp2_with fail
  go_ret3
  refine⟨by refine HU1.out.trans ?_;(repeat (first|exact Upd.refl _ _|refine Upd.drewN ?_|refine Upd.drew ?_|refine Upd.setCell ?_ (by simp) _|refine Upd.alloc ?_ _)),_,p,rfl,?_,PpAt.new rfl ?_,?_⟩
  ·omega
  ·simp
  ·refine NodesAt.mono _ _ (NodesAt.same _ _ HN1.out (fun k hk _=>?_)) (fun k hk _=>⟨hk.1,by simp;omega,by omega⟩)
   rw [Below.heap_alloc _ _ _ (by simp;omega),Below.heap_alloc _ _ _ (by omega)]
theorem sGroups_nil (w:World) :
  Calls Tryz.prog 35 #[.pointer none] w (fun e w'=>e=.returned (.tuple #[.int .i64 0,.int .i64 1])∧w'=w):=by
 go_enter Tryz.func35,Tryz.ntmps35
 go_wp2_with fail
 go_ret2
 exact⟨rfl,rfl⟩
end Go.Proofs.YtcpfpnjkfahjcaaGreat
