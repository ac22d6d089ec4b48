import Derived.Test.YtcpfpnjkfahjcaaGreatH24
import Derived.Test.YtcpfpnjkfahjcaaGreatH09
import Derived.Test.YtcpfpnjkfahjcaaGreatH02
set_option linter.unusedSimpArgs false
set_option linter.unusedVariables false
namespace Go.Proofs.YtcpfpnjkfahjcaaGreat
open Go.RowKit
def PatAt (w:World) (p:Nat) (t:Tr) (n:Nat):Prop:=n≤9∧∃ root S,PpAt w p root n∧TreeAt w S root n t
theorem PatAt.upd {w w':World} {p:Nat} {t:Tr} {n:Nat} (h:PatAt w p t n) (u:Upd [] w w'):PatAt w' p t n:=by
 obtain⟨h0,root,S,h1,h2⟩:=h
 exact⟨h0,root,S,(u.block p (lt_of_heap h1) (by simp)).trans h1,h2.upd u (by simp)⟩
def CompOut (s:ByteArray) (w:World) (e:Ending) (w':World):Prop:=Upd [] w w'∧match Sp.read s with
 | .ok (t,n)=>∃ p,e=.returned (.tuple #[.pointer (some ⟨p,0,none⟩),.int .i64 0,.int .i64 0])∧w.heap.size≤p∧PatAt w' p t n.toNat
 | .error (e1,a1)=>e=.returned (.tuple #[.pointer none,.int .i64 e1,.int .i64 a1])
theorem comp_any (s:ByteArray) (w:World):Calls Tryz.prog 6 #[.string s] w (CompOut s w):=by
 refine (sCompile_any s w).mono ?_
 rintro e w' ⟨u,h⟩
 refine⟨u,?_⟩
 revert h
 cases hr:Sp.read s with
 | error f=>obtain⟨a,b⟩:=f;exact id
 | ok v=>
  obtain⟨t,n⟩:=v
  rintro ⟨p,root,h1,h2,h3,h4⟩
  have hn:=Sp.read_num hr
  have h9:=(Sp.read_choice hr).2.2.2
  have en:((n.toNat:Nat):Int)=n:=by omega
  refine⟨p,h1,h2,by omega,root,_,by rw [en];exact h3,h4,Sp.read_can hr,(Sp.read_made hr).2,by rw [en];exact hn.2⟩
set_option maxHeartbeats 800000 in
theorem refuses_ok (p:Nat) (t:ByteArray) (w:World) (ht:t.size≤100):Calls Tryz.prog 25 #[ptr p,.string t] w fun e w'=>e=.returned (.int .i64 0)∧w'=w:=by
 have ht':¬ (100:Int) < t.size:=by omega
 unfold ptr
 go_enter Tryz.func25,Tryz.ntmps25
 go_wp2
 go_ret
 exact⟨rfl,rfl⟩
theorem mWhole_no (S:Nat→Prop) (t:ByteArray) (p m:Nat) (u:Tr) (w:World) (ht:t.size≤100) (hm:m≤100) (hT:TreeAt w S p m u) (hr:wholeS u t=none) :
  Calls Tryz.prog 47 #[ptr p,.int .i64 m,.string t] w fun e w'=>e=.returned (.slice none 0 0)∧Upd [] w w':=by
 refine (mWhole_any S t p m u w ht hm hT).mono ?_
 rw [hr]
 rintro e w' ⟨u,h⟩;exact⟨h,u⟩
theorem mWhole_yes (S:Nat→Prop) (t:ByteArray) (p m:Nat) (u:Tr) (w:World) (ht:t.size≤100) (hm:m≤100) (hT:TreeAt w S p m u) {f:Nat→Int×Int} (hr:wholeS u t=some f) :
  Calls Tryz.prog 47 #[ptr p,.int .i64 m,.string t] w fun e w'=>∃ g,w.heap.size≤g∧e=.returned (spansV g (m+1))∧SpansAt w' g (m+1) f∧Upd [] w w':=by
 refine (mWhole_any S t p m u w ht hm hT).mono ?_
 rw [hr]
 rintro e w' ⟨u,g,h1,h2,h3⟩;exact⟨g,h1,h2,h3,u⟩
set_option maxHeartbeats 800000 in
theorem sWhole_any (p:Nat) (u:Tr) (n:Nat) (t:ByteArray) (w:World) (ht:t.size≤100) (h:PatAt w p u n):Calls Tryz.prog 26 #[ptr p,.string t] w (WholeOut (n+1) (wholeS u t) w):=by
 obtain⟨hn,root,S,h1,h2⟩:=h
 have c0:w.cell? ⟨p,0,none⟩=some (.pointer (some ⟨root,0,none⟩)):=by unfold PpAt at h1;simp [World.cell?,h1,ptr]
 have c1:w.cell? ⟨p,1,none⟩=some (.int .i64 n):=by unfold PpAt at h1;simp [World.cell?,h1]
 have H2:Hid (TreeAt w S root n u):=h2
 clear h1 h2
 unfold ptr
 cases hr:wholeS u t with
 | none=>
  have HR:Hid (wholeS u t=none):=hr
  clear hr
  go_enter Tryz.func26,Tryz.ntmps26
  go_wp2_with fail
  go_region_with (go_at_call 47;refine (mWhole_no S t root n u _ ht (by omega) (TreeAt.upd (l:=[]) H2.out (by (repeat (first|exact Upd.refl _ _|refine Upd.drewN ?_|refine Upd.drew ?_|refine Upd.setCell ?_ (by simp) _|refine Upd.alloc ?_ _))) (by simp)) HR.out).mono ?_;rintro e w1 ⟨rfl,u1⟩;have HU:Hid (Upd [] w w1):=Upd.trans (by (repeat (first|exact Upd.refl _ _|refine Upd.drewN ?_|refine Upd.drew ?_|refine Upd.setCell ?_ (by simp) _|refine Upd.alloc ?_ _))) u1;clear u1)
  all_goals go_wp2_with fail
  all_goals go_ret
  all_goals exact WholeOut.mk_no rfl HU.out rfl
 | some f=>
  have HR:Hid (wholeS u t=some f):=hr
  clear hr
  go_enter Tryz.func26,Tryz.ntmps26
  go_wp2_with fail
  go_region_with (go_at_call 47;refine (mWhole_yes S t root n u _ ht (by omega) (TreeAt.upd (l:=[]) H2.out (by (repeat (first|exact Upd.refl _ _|refine Upd.drewN ?_|refine Upd.drew ?_|refine Upd.setCell ?_ (by simp) _|refine Upd.alloc ?_ _))) (by simp)) HR.out).mono ?_;rintro e w1 ⟨g,hg,rfl,hs,u1⟩;have HU:Hid (Upd [] w w1):=Upd.trans (by (repeat (first|exact Upd.refl _ _|refine Upd.drewN ?_|refine Upd.drew ?_|refine Upd.setCell ?_ (by simp) _|refine Upd.alloc ?_ _))) u1;have HG:Hid (w.heap.size≤g):=hg;have HS:Hid (SpansAt w1 g (n+1) f):=hs;clear u1 hs hg;unfold spansV)
  all_goals go_wp2_with fail
  all_goals go_ret
  all_goals exact WholeOut.mk_yes rfl HU.out ⟨g,HG.out,rfl,HS.out⟩
def MatchOut (n:Nat) (r:Option (Nat→Int×Int)) (w:World) (e:Ending) (w':World):Prop:=
 Upd [] w w'∧match r with
 | none=>e=.returned (.tuple #[.slice none 0 0,.int .i64 0])
 | some f=>∃ g,w.heap.size≤g∧e=.returned (.tuple #[spansV g n,.int .i64 0])∧SpansAt w' g n f
theorem MatchOut.mk_no {n:Nat} {r:Option (Nat→Int×Int)} {w w':World} {e:Ending} (h:r=none) (u:Upd [] w w') (he:e=.returned (.tuple #[.slice none 0 0,.int .i64 0])):MatchOut n r w e w':=by
 subst h;exact⟨u,he⟩
theorem MatchOut.mk_yes {n:Nat} {r:Option (Nat→Int×Int)} {w w':World} {e:Ending} {f:Nat→Int×Int} (h:r=some f) (u:Upd [] w w') (k:∃ g,w.heap.size≤g∧e=.returned (.tuple #[spansV g n,.int .i64 0])∧SpansAt w' g n f):MatchOut n r w e w':=by
 subst h;exact⟨u,k⟩
set_option maxHeartbeats 800000 in
theorem sMatch_any (p:Nat) (u:Tr) (n:Nat) (t:ByteArray) (w:World) (ht:t.size≤100) (h:PatAt w p u n):Calls Tryz.prog 8 #[ptr p,.string t] w (MatchOut (n+1) (wholeS u t) w):=by
 have H:Hid (PatAt w p u n):=h
 clear h
 unfold ptr
 go_enter Tryz.func8,Tryz.ntmps8
 go_wp2_with fail
 refine (refuses_ok p t _ ht).mono ?_
 rintro e w1 ⟨rfl,hw1⟩
 rw [hw1]
 clear hw1 w1
 go_wp2_with fail
 refine (sWhole_any p u n t _ ht H.out).mono ?_
 rintro e w1 ⟨u1,h1⟩
 revert h1
 cases hr:wholeS u t with
 | none=>
  rintro rfl
  have HU:Hid (Upd [] w w1):=u1
  have HR:Hid (wholeS u t=none):=hr
  clear u1 hr
  go_wp2_with fail
  go_ret2
  exact MatchOut.mk_no HR.out HU.out rfl
 | some f=>
  rintro ⟨g,hg,rfl,hs⟩
  have HU:Hid (Upd [] w w1):=u1
  have HS:Hid (SpansAt w1 g (n+1) f):=hs
  have HR:Hid (wholeS u t=some f):=hr
  clear u1 hr hs
  unfold spansV
  go_wp2_with fail
  go_ret2
  exact MatchOut.mk_yes HR.out HU.out ⟨g,hg,rfl,HS.out⟩
end Go.Proofs.YtcpfpnjkfahjcaaGreat
