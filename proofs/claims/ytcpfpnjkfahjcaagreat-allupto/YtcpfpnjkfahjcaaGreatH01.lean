import Derived.KernelRfl
import Derived.Test.YtcpfpnjkfahjcaaGreatRows
import Derived.WalkKit
import Derived.WalkSpells
import Derived.WalkLawsBesides
import Derived.Deep.QuietTactic
import Derived.BigQuiet
import Derived.Deep.LoopGhost
import Derived.Maps.AppendAt
import Derived.OwnWalk
set_option linter.unusedSimpArgs false
set_option linter.unusedVariables false
/- The document's reading of patterns,as plain functions: no program is named here. -/
namespace Go.Proofs.YtcpfpnjkfahjcaaGreat
structure Lab where
 kind:Nat
 byte:Nat
 set:Nat→Bool
 not:Bool
 told:Bool
 num:Nat
 min:Int
 max:Int
structure Tr where
 lab:Lab
 kids:List Tr
namespace Sp
def byteAt (s:ByteArray) (i:Nat):Int:=if h:i < s.size then (s[i].toNat:Int) else 0
theorem byteAt_lo (s:ByteArray) (i:Nat):0≤byteAt s i:=by unfold byteAt;split<;>omega
theorem byteAt_hi (s:ByteArray) (i:Nat):byteAt s i≤255:=by
 unfold byteAt;split
 ·have:=s[i].toNat_lt;omega
 ·omega
theorem byteAt_in (s:ByteArray) (i:Nat) (h:i < s.size):byteAt s i=(s[i].toNat:Int):=by unfold byteAt;rw [dif_pos h]
def isAt (s:ByteArray) (i:Nat) (c:Int):Bool:=decide (i < s.size) && decide (byteAt s i=c)
def sign (c:Int):Bool:=[92,40,41,91,93,123,125,42,43,63,124,46].contains c
def listSign (c:Int):Bool:=sign c || c == 45 || c == 94
def hex (c:Int):Int:=if 48≤c∧c≤57 then c - 48 else if 97≤c∧c≤102 then c - 87 else if 65≤c∧c≤70 then c - 55 else -1
abbrev Fault:=Int×Int
abbrev Res (α:Type):=Except Fault α
def hexPair (s:ByteArray) (i:Nat):Res (Int×Nat):=
 if i < s.size∧0≤hex (byteAt s i) then
  if i+1 < s.size∧0≤hex (byteAt s (i+1)) then .ok (16 * hex (byteAt s i)+hex (byteAt s (i+1)),i+2)
  else .error (3,(i+1:Nat))
 else .error (3,i)
def escape (s:ByteArray) (i:Nat):Res (Int×Nat):=
 if i < s.size then
  if byteAt s i=110 then .ok (10,i+1)
  else if byteAt s i=116 then .ok (9,i+1)
  else if byteAt s i=120 then hexPair s (i+1)
  else if listSign (byteAt s i) then .ok (byteAt s i,i+1)
  else .error (3,i)
 else .error (3,i)
def byteBut (l:Bool) (s:ByteArray) (i:Nat):Res (Int×Nat):=
 if isAt s i 92 then escape s (i+1)
 else if i < s.size∧(if l then listSign (byteAt s i) else sign (byteAt s i))=false then .ok (byteAt s i,i+1)
 else .error (3,i)
def digitAt (s:ByteArray) (i:Nat):Bool:=decide (i < s.size) && decide (48≤byteAt s i) && decide (byteAt s i≤57)
def digits (s:ByteArray) (i:Nat):Int×Nat:=
 if byteAt s i - 48 > 0∧digitAt s (i+1) then (10 * (byteAt s i - 48)+(byteAt s (i+1) - 48),i+2) else (byteAt s i - 48,i+1)
def number (least:Int) (s:ByteArray) (i:Nat):Res (Int×Nat):=
 if digitAt s i then
  if (digits s i).1 > 20∨(digits s i).1 < least then .error (4,i) else .ok (digits s i)
 else .error (3,i)
def need (c:Int) (s:ByteArray) (i:Nat):Res Nat:=if isAt s i c then .ok (i+1) else .error (3,i)
def bounds (s:ByteArray) (i:Nat):Res (Int×Int×Nat):=
 match number 0 s i with
 | .error f=>.error f
 | .ok (m,j)=>
  if isAt s j 44 then
   if digitAt s (j+1) then
    match number m s (j+1) with
    | .error f=>.error f
    | .ok (n,k)=>match need 125 s k with
     | .error f=>.error f
     | .ok l=>.ok (m,n,l)
   else match need 125 s (j+1) with
    | .error f=>.error f
    | .ok l=>.ok (m,-1,l)
  else match need 125 s j with
   | .error f=>.error f
   | .ok l=>.ok (m,m,l)
def item (s:ByteArray) (i:Nat):Res (Int×Int×Nat):=
 match byteBut true s i with
 | .error f=>.error f
 | .ok (a,j)=>
  if isAt s j 45 then
   match byteBut true s (j+1) with
   | .error f=>.error f
   | .ok (b,k)=>if b < a then .error (3,(j+1:Nat)) else .ok (a,b,k)
  else .ok (a,a,j)
def add (set:Nat→Bool) (a b:Int):Nat→Bool:=fun c=>set c || (decide (a≤c) && decide ((c:Int)≤b))
def items (s:ByteArray):Nat→(Nat→Bool)→Nat→Res ((Nat→Bool)×Nat)
 | 0,_,i=>.error (3,i)
 | n+1,set,i=>
  match item s i with
  | .error f=>.error f
  | .ok (a,b,j)=>if isAt s j 93 then .ok (add set a b,j+1) else items s n (add set a b) j
def blank:Lab:={ kind:=0,byte:=0,set:=fun _=>false,not:=false,told:=false,num:=0,min:=-1,max:=0 }
def list (s:ByteArray) (i:Nat):Res (Tr×Nat):=
 let not:=isAt s i 94
 let j:=if not then i+1 else i
 match items s (s.size+1) (fun _=>false) j with
 | .error f=>.error f
 | .ok (set,k)=>.ok (⟨{ blank with kind:=2,set:=set,not:=not },[]⟩,k)
def count (s:ByteArray) (i:Nat):Res (Int×Int×Nat):=
 if isAt s i 42 then .ok (0,-1,i+1)
 else if isAt s i 43 then .ok (1,-1,i+1)
 else if isAt s i 63 then .ok (0,1,i+1)
 else if isAt s i 123 then bounds s (i+1)
 else .ok (-1,0,i)
structure At where
 i:Nat
 t:Int
def head (s:ByteArray) (d:Nat) (x:At):Res (Nat×At):=
 if 8≤d then .error (5,x.i)
 else if isAt s (x.i+1) 63 then
  match need 58 s (x.i+2) with
  | .error f=>.error f
  | .ok j=>.ok (0,⟨j,x.t⟩)
 else if 9≤x.t then .error (6,x.i)
 else .ok ((x.t+1).toNat,⟨x.i+1,x.t+1⟩)
def group (sub:At→Res (Tr×At)) (s:ByteArray) (d:Nat) (x:At):Res (Tr×At):=
 match head s d x with
 | .error f=>.error f
 | .ok (k,y)=>
  match sub y with
  | .error f=>.error f
  | .ok (t,z)=>match need 41 s z.i with
   | .error f=>.error f
   | .ok j=>.ok (⟨{ blank with kind:=3,told:=decide (k≠0),num:=k },[t]⟩,⟨j,z.t⟩)
def atom (sub:At→Res (Tr×At)) (s:ByteArray) (d:Nat) (x:At):Res (Tr×At):=
 if isAt s x.i 40 then group sub s d x
 else if isAt s x.i 91 then
  match list s (x.i+1) with
  | .error f=>.error f
  | .ok (t,j)=>.ok (t,⟨j,x.t⟩)
 else if isAt s x.i 46 then .ok (⟨{ blank with kind:=1,set:=fun c=>c == 10,not:=true },[]⟩,⟨x.i+1,x.t⟩)
 else match byteBut false s x.i with
  | .error f=>.error f
  | .ok (b,j)=>.ok (⟨{ blank with kind:=0,byte:=b.toNat,set:=fun c=>c == b.toNat },[]⟩,⟨j,x.t⟩)
def part (sub:At→Res (Tr×At)) (s:ByteArray) (d:Nat) (x:At):Res (Tr×At):=
 match atom sub s d x with
 | .error f=>.error f
 | .ok (t,y)=>match count s y.i with
  | .error f=>.error f
  | .ok (m,n,j)=>.ok (⟨{ t.lab with min:=m,max:=n },t.kids⟩,⟨j,y.t⟩)
def over (s:ByteArray) (i:Nat):Bool:=decide (s.size≤i) || isAt s i 124 || isAt s i 41
def parts (sub:At→Res (Tr×At)) (s:ByteArray) (d:Nat):Nat→List Tr→At→Res (List Tr×At)
 | 0,_,x=>.error (3,x.i)
 | n+1,l,x=>
  if over s x.i then .ok (l,x)
  else match part sub s d x with
   | .error f=>.error f
   | .ok (t,y)=>parts sub s d n (l++[t]) y
def row (sub:At→Res (Tr×At)) (s:ByteArray) (d:Nat) (x:At):Res (Tr×At):=
 match parts sub s d (s.size+1) [] x with
 | .error f=>.error f
 | .ok (l,y)=>.ok (⟨{ blank with kind:=5 },l⟩,y)
def rows (sub:At→Res (Tr×At)) (s:ByteArray) (d:Nat):Nat→List Tr→At→Res (List Tr×At)
 | 0,_,x=>.error (3,x.i)
 | n+1,l,x=>
  match row sub s d x with
  | .error f=>.error f
  | .ok (t,y)=>if isAt s y.i 124 then rows sub s d n (l++[t]) ⟨y.i+1,y.t⟩ else .ok (l++[t],y)
def choice (s:ByteArray):Nat→At→Res (Tr×At)
 | 0,x=>.error (5,x.i)
 | k+1,x=>
  match rows (choice s k) s (8 - k) (s.size+1) [] x with
  | .error f=>.error f
  | .ok (l,y)=>.ok (⟨{ blank with kind:=4 },l⟩,y)
end Sp
end Go.Proofs.YtcpfpnjkfahjcaaGreat
/- What the proofs of all functions share. -/
namespace Go.Proofs.YtcpfpnjkfahjcaaGreat
open Go.RowKit
theorem tup2 {a b c d:Value} (h:a=c) (k:b=d):Ending.returned (.tuple #[a,b])=.returned (.tuple #[c,d]):=by rw [h,k]
theorem int_eq {k:IntKind} {a b:Int} (h:a=b):Value.int k a=.int k b:=by rw [h]
theorem bool_eq {a b:Bool} (h:a=b):Value.bool a=.bool b:=by rw [h]
theorem ret_bool {a b:Bool} (h:a=b):Ending.returned (.bool a)=.returned (.bool b):=by rw [h]
theorem ret_int {k:IntKind} {a b:Int} (h:a=b):Ending.returned (.int k a)=.returned (.int k b):=by rw [h]
structure Upd (l:List Nat) (w w':World):Prop where
 os:w'.os=w.os
 tape:w'.tape=w.tape
 output:w'.output=w.output
 size:w.heap.size≤w'.heap.size
 block:∀ k,k < w.heap.size→k∉l→w'.heap[k]?=w.heap[k]?
theorem Upd.refl (l:List Nat) (w:World):Upd l w w:=⟨rfl,rfl,rfl,Nat.le_refl _,fun _ _ _=>rfl⟩
theorem Upd.trans {l:List Nat} {a b c:World} (h:Upd l a b) (k:Upd l b c):Upd l a c:=
 ⟨k.os.trans h.os,k.tape.trans h.tape,k.output.trans h.output,Nat.le_trans h.size k.size,fun i hi hn=>(k.block i (Nat.lt_of_lt_of_le hi h.size) hn).trans (h.block i hi hn)⟩
theorem Upd.drew {l:List Nat} {a w:World} (h:Upd l a w):Upd l a w.drew:=⟨h.os,h.tape,h.output,h.size,h.block⟩
theorem Upd.setCell {l:List Nat} {a w:World} (h:Upd l a w) {p:Addr} (hp:p.block∈l) (u:Value):Upd l a (w.setCell p u):=
 h.trans ⟨rfl,rfl,rfl,by simp [World.setCell],fun k _ hn=>Below.heap_setCell _ _ _ _ (fun e=>hn (e ▸ hp))⟩
theorem Upd.alloc {l:List Nat} {a w:World} (h:Upd l a w) (o:Obj):Upd l a (w.alloc o):=
 h.trans ⟨rfl,rfl,rfl,by simp,fun k hk _=>Below.heap_alloc _ _ _ hk⟩
structure RS where
 i:Nat
 e:Int
 a:Int
 d:Int
 t:Int
def RS.adv (x:RS) (b:Bool):RS:=if b then { x with i:=x.i+1 } else x
theorem heap_set {w:World} {r:Nat} {c:Array Value} {T:TypeId} (h:w.heap[r]?=some (.cells c T (0,0))) (o:Nat) (v:Value) :
  (w.setCell ⟨r,o,none⟩ v).heap[r]?=some (.cells (c.setIfInBounds o v) T (0,0)):=by
 simp [World.setCell,Array.getElem?_modify,h]
theorem drewN_upd (l:List Nat) (w:World) (n:Nat):Upd l w (w.drewN n):=⟨rfl,rfl,rfl,Nat.le_refl _,fun _ _ _=>rfl⟩
theorem hex_hi (c:Int):Sp.hex c≤15:=by unfold Sp.hex;(repeat' split)<;>omega
theorem Upd.pre {l:List Nat} {a b:World} {n:Nat} (h:Upd l (a.drewN n) b):Upd l a b:=⟨h.os,h.tape,h.output,h.size,h.block⟩
theorem Upd.drewN {l:List Nat} {a b:World} (h:Upd l a b) {n:Nat}:Upd l a (b.drewN n):=⟨h.os,h.tape,h.output,h.size,h.block⟩
theorem isAt_ok {s:ByteArray} {i:Nat} {c:Int} (hi:i < s.size):Sp.isAt s i c=decide (Sp.byteAt s i=c):=by simp [Sp.isAt,hi]
theorem isAt_out {s:ByteArray} {i:Nat} {c:Int} (hi:¬ i < s.size):Sp.isAt s i c=false:=by simp [Sp.isAt,hi]
theorem lt_of_heap {w:World} {r:Nat} {o:Obj} (h:w.heap[r]?=some o):r < w.heap.size:=by
 rcases Nat.lt_or_ge r w.heap.size with h1|h1
 ·exact h1
 ·rw [Array.getElem?_eq_none h1] at h;cases h
theorem Upd.mono {l l':List Nat} {w w':World} (h:Upd l w w') (hl:∀ k,k∈l→k∈l'):Upd l' w w':=
 ⟨h.os,h.tape,h.output,h.size,fun k hk hn=>h.block k hk (fun q=>hn (hl k q))⟩
theorem Upd.one {r p:Nat} {w w':World} (h:Upd [r] w w'):Upd [r,p] w w':=h.mono (by simp)
def ptr (p:Nat):Value:=.pointer (some ⟨p,0,none⟩)
theorem ownsRow_same {w w':World} {base:Nat} {e:TypeId} {size:Nat} {v:Value} {n:Nat} {xs:List Value} (h:w.ownsRow base e size v n xs) (hb:∀ g,v.ownBlock=some g→g < w.heap.size→w'.heap[g]?=w.heap[g]?):w'.ownsRow base e size v n xs:=by
 obtain⟨h1,h2⟩:=h
 refine⟨h1,?_⟩
 rcases h2 with h2|⟨g,cap,cur,hv,hg,hh,q⟩
 ·exact Or.inl h2
 ·exact Or.inr ⟨g,cap,cur,hv,hg,by rw [hb g (by rw [hv];rfl) (lt_of_heap hh)];exact hh,q⟩
theorem ownBlock_lt {w:World} {base:Nat} {e:TypeId} {size:Nat} {v:Value} {n:Nat} {xs:List Value} (h:w.ownsRow base e size v n xs) {g:Nat} (hg:v.ownBlock=some g):g < w.heap.size∧base≤g:=by
 rcases h.2 with ⟨q,_⟩|⟨g',cap,cur,hv,hb,hh,_⟩
 ·rw [q] at hg;cases hg
 ·rw [hv] at hg;cases hg;exact⟨lt_of_heap hh,hb⟩
theorem Upd.hide {l:List Nat} {a b c:World} {q:Nat} (h:Upd l a b) (k:Upd (q::l) b c) (hq:a.heap.size≤q):Upd l a c:=
 ⟨k.os.trans h.os,k.tape.trans h.tape,k.output.trans h.output,Nat.le_trans h.size k.size,fun i hi hn=>(k.block i (Nat.lt_of_lt_of_le hi h.size) (by simp;exact⟨by omega,hn⟩)).trans (h.block i hi hn)⟩
theorem Upd.swap {a b:Nat} {w w':World} (h:Upd [a,b] w w'):Upd [b,a] w w':=h.mono (by simp)
def after (s:ByteArray) (n:Nat) (set:Nat→Bool) (i:Nat):Sp.Res ((Nat→Bool)×Nat):=if Sp.isAt s i 93 then .ok (set,i+1) else Sp.items s n set i
theorem items_succ (s:ByteArray) (n:Nat) (set:Nat→Bool) (i:Nat):Sp.items s (n+1) set i=match Sp.item s i with | .error f=>.error f | .ok (a,b,j)=>after s n (Sp.add set a b) j:=rfl
def listR (s:ByteArray) (x:RS):Sp.Res (Tr×Sp.At):=match Sp.list s x.i with | .error f=>.error f | .ok (t,j)=>.ok (t,⟨j,x.t⟩)
theorem hexPair_err {s:ByteArray} {i:Nat} {e a:Int} (h:Sp.hexPair s i=.error (e,a)):e=3:=by
 unfold Sp.hexPair at h;split at h
 ·split at h
  ·cases h
  ·cases h;rfl
 ·cases h;rfl
theorem escape_err {s:ByteArray} {i:Nat} {e a:Int} (h:Sp.escape s i=.error (e,a)):e=3:=by
 unfold Sp.escape at h;repeat' split at h
 all_goals first|cases h;done|exact hexPair_err h|(cases h;rfl)
theorem byteBut_err {l:Bool} {s:ByteArray} {i:Nat} {e a:Int} (h:Sp.byteBut l s i=.error (e,a)):e=3:=by
 unfold Sp.byteBut at h;split at h
 ·exact escape_err h
 ·by_cases q:i < s.size∧(if l then Sp.listSign (Sp.byteAt s i) else Sp.sign (Sp.byteAt s i))=false
  ·rw [if_pos q] at h;cases h
  ·rw [if_neg q] at h;cases h;rfl
theorem hex_in {c:Int} (h:0≤Sp.hex c):Sp.hex c≤15:=by unfold Sp.hex at *;(repeat' split at h)<;>(repeat' split)<;>omega
theorem hexPair_ok {s:ByteArray} {i j:Nat} {v:Int} (h:Sp.hexPair s i=.ok (v,j)):0≤v∧v≤255∧i < j∧j≤s.size:=by
 unfold Sp.hexPair at h;split at h
 ·rename_i q
  split at h
  ·rename_i q'
   cases h
   have:=hex_in q.2;have:=hex_in q'.2
   exact⟨by omega,by omega,by omega,by omega⟩
  ·cases h
 ·cases h
theorem escape_ok {s:ByteArray} {i j:Nat} {v:Int} (h:Sp.escape s i=.ok (v,j)):0≤v∧v≤255∧i < j∧j≤s.size:=by
 have b0:=Sp.byteAt_lo s i
 have b1:=Sp.byteAt_hi s i
 unfold Sp.escape at h;repeat' split at h
 case isTrue.isFalse.isFalse.isTrue=>have:=hexPair_ok h;omega
 all_goals cases h
 all_goals exact⟨by omega,by omega,by omega,by omega⟩
theorem byteBut_ok {l:Bool} {s:ByteArray} {i j:Nat} {v:Int} (h:Sp.byteBut l s i=.ok (v,j)):0≤v∧v≤255∧i < j∧j≤s.size:=by
 have b0:=Sp.byteAt_lo s i
 have b1:=Sp.byteAt_hi s i
 unfold Sp.byteBut at h;split at h
 ·have:=escape_ok h;omega
 ·by_cases q:i < s.size∧(if l then Sp.listSign (Sp.byteAt s i) else Sp.sign (Sp.byteAt s i))=false
  ·rw [if_pos q] at h;cases h;exact⟨by omega,by omega,by omega,by omega⟩
  ·rw [if_neg q] at h;cases h
def bLab (v:Int):Lab:={ Sp.blank with kind:=0,byte:=v.toNat,set:=fun c=>c == v.toNat }
theorem Upd.shrink {r:Nat} {l:List Nat} {a b c:World} (h:Upd [r] a b) (k:Upd l b c) (hl:∀ q,q∈l→q=r∨a.heap.size≤q):Upd [r] a c:=
 ⟨k.os.trans h.os,k.tape.trans h.tape,k.output.trans h.output,Nat.le_trans h.size k.size,fun i hi hn=>(k.block i (Nat.lt_of_lt_of_le hi h.size) (fun q=>by rcases hl i q with e|e;simp [e] at hn;omega)).trans (h.block i hi hn)⟩
theorem Upd.of_grown {w w':World} {row:Option Nat} (h:w.grownBy w' row):Upd row.toList w w':=
 ⟨h.os,h.tape,h.output,h.size,fun k hk hn=>h.block k hk (fun e=>hn (by rw [← e];simp))⟩
theorem own_form {w:World} {b:Nat} {e:TypeId} {v:Value} {n:Nat} {xs:List Value} (h:w.ownsRow b e 1 v (n+1) xs):∃ g cap,v=.slice (some ⟨g,0,none⟩) (n+1) cap:=by
 rcases h.2 with ⟨_,q⟩|⟨g,cap,_,hv,_⟩
 ·omega
 ·exact⟨g,cap,hv⟩
def rLab:Lab:={ Sp.blank with kind:=5 }
def cLab:Lab:={ Sp.blank with kind:=4 }
theorem own_cells {w:World} {b:Nat} {e:TypeId} {v:Value} {qs:List Nat} (h:w.ownsRow b e 1 v qs.length (qs.map ptr)):(v=.slice none 0 0∧qs=[])∨∃ g cap,v=.slice (some ⟨g,0,none⟩) qs.length cap∧qs.length≤cap∧cap≤maxLen∧∀ i q,qs[i]?=some q→w.cell? ⟨g,i,none⟩=some (ptr q):=by
 rcases h.2 with ⟨h1,h2⟩|⟨g,cap,cur,hv,hb,hh,hn,hc,hs,ht⟩
 ·exact Or.inl ⟨h1,List.eq_nil_of_length_eq_zero h2⟩
 ·refine Or.inr ⟨g,cap,hv,hn,hc,fun i q hq=>?_⟩
  have hi:i < qs.length:=by
   rcases Nat.lt_or_ge i qs.length with h|h
   ·exact h
   ·rw [List.getElem?_eq_none h] at hq;cases hq
  simp only [World.cell?,hh]
  have:(cur.toList.take (qs.length * 1))[i]?=some (ptr q):=by rw [ht];simp [hq]
  rw [List.getElem?_take] at this
  simp [hi] at this
  simpa using this
def Few:List Tr→Prop
 | []=>True
 | ⟨_,ks⟩::r=>ks.length≤1000∧Few ks∧Few r
end Go.Proofs.YtcpfpnjkfahjcaaGreat
/- Readings go on,and stay within the text: no program is named here. -/
namespace Go.Proofs.YtcpfpnjkfahjcaaGreat
namespace Sp
theorem isAt_lt {s:ByteArray} {i:Nat} {c:Int} (h:isAt s i c=true):i < s.size:=by simp [isAt] at h;exact h.1
theorem need_ok {s:ByteArray} {i j:Nat} {c:Int} (h:need c s i=.ok j):j=i+1∧i < s.size:=by
 unfold need at h;split at h
 ·rename_i q;cases h;exact⟨rfl,isAt_lt q⟩
 ·cases h
def Good (s:ByteArray) (f:At→Res (Tr×At)):Prop:=∀ x t y,f x=.ok (t,y)→x.i≤s.size→0≤x.t→x.t≤9→x.i≤y.i∧y.i≤s.size∧0≤y.t∧y.t≤9
theorem head_ok {s:ByteArray} {d:Nat} {x:At} {k:Nat} {y:At} (h:head s d x=.ok (k,y)) (hi:x.i < s.size) (h0:0≤x.t) (h9:x.t≤9):x.i < y.i∧y.i≤s.size∧0≤y.t∧y.t≤9:=by
 unfold head at h
 by_cases h1:8≤d
 ·rw [if_pos h1] at h;cases h
 rw [if_neg h1] at h
 by_cases h2:isAt s (x.i+1) 63=true
 ·rw [if_pos h2] at h
  cases hn:need 58 s (x.i+2) with
  | error f=>rw [hn] at h;cases h
  | ok j=>rw [hn] at h;cases h;have:=need_ok hn;simp;omega
 rw [if_neg h2] at h
 by_cases h3:9≤x.t
 ·rw [if_pos h3] at h;cases h
 rw [if_neg h3] at h;cases h;simp;omega
theorem group_good {s:ByteArray} {d:Nat} {sub:At→Res (Tr×At)} (hs:Good s sub) {x:At} {t:Tr} {y:At} (h:group sub s d x=.ok (t,y)) (hi:x.i < s.size) (h0:0≤x.t) (h9:x.t≤9):x.i < y.i∧y.i≤s.size∧0≤y.t∧y.t≤9∧t.lab.min=-1∧t.lab.max=0:=by
 unfold group at h
 cases hh:head s d x with
 | error f=>rw [hh] at h;cases h
 | ok v=>
  obtain⟨k,z⟩:=v
  rw [hh] at h
  have a:=head_ok hh hi h0 h9
  cases hb:sub z with
  | error f=>simp [hb] at h
  | ok v=>
   obtain⟨t',u⟩:=v
   have b:=hs z t' u hb a.2.1 a.2.2.1 a.2.2.2
   cases hn:need 41 s u.i with
   | error f=>simp [hb,hn] at h
   | ok j=>simp [hb,hn] at h;obtain⟨rfl,rfl⟩:=h;have:=need_ok hn;simp [blank];omega
theorem hexPair_in {s:ByteArray} {i j:Nat} {v:Int} (h:hexPair s i=.ok (v,j)):i < j∧j≤s.size:=by
 unfold hexPair at h;split at h
 ·rename_i q;split at h
  ·rename_i q';cases h;exact⟨by omega,by omega⟩
  ·cases h
 ·cases h
theorem escape_in {s:ByteArray} {i j:Nat} {v:Int} (h:escape s i=.ok (v,j)):i < j∧j≤s.size:=by
 unfold escape at h;repeat' split at h
 case isTrue.isFalse.isFalse.isTrue=>have:=hexPair_in h;omega
 all_goals cases h
 all_goals exact⟨by omega,by omega⟩
theorem byteBut_in {l:Bool} {s:ByteArray} {i j:Nat} {v:Int} (h:byteBut l s i=.ok (v,j)):i < j∧j≤s.size:=by
 unfold byteBut at h;split at h
 ·have:=escape_in h;omega
 ·by_cases q:i < s.size∧(if l then listSign (byteAt s i) else sign (byteAt s i))=false
  ·rw [if_pos q] at h;cases h;exact⟨by omega,by omega⟩
  ·rw [if_neg q] at h;cases h
theorem item_in {s:ByteArray} {i j:Nat} {a b:Int} (h:item s i=.ok (a,b,j)):i < j∧j≤s.size:=by
 unfold item at h
 cases h1:byteBut true s i with
 | error f=>simp [h1] at h
 | ok v=>
  obtain⟨a',j'⟩:=v
  have g:=byteBut_in h1
  simp only [h1] at h
  split at h
  ·cases h2:byteBut true s (j'+1) with
   | error f=>simp [h2] at h
   | ok v=>
    obtain⟨b',k'⟩:=v
    have g':=byteBut_in h2
    simp only [h2] at h
    split at h
    ·cases h
    ·cases h;omega
  ·cases h;omega
theorem items_in {s:ByteArray}:∀ {n:Nat} {set:Nat→Bool} {i:Nat} {set':Nat→Bool} {j:Nat},items s n set i=.ok (set',j)→i < j∧j≤s.size
 | 0,_,_,_,_,h=>by cases h
 | n+1,set,i,set',j,h=>by
  unfold items at h
  cases h1:item s i with
  | error f=>simp [h1] at h
  | ok v=>
   obtain⟨a,b,j'⟩:=v
   have g:=item_in h1
   simp only [h1] at h
   split at h
   ·rename_i q;cases h;have:=isAt_lt q;omega
   ·have:=items_in h;omega
theorem list_in {s:ByteArray} {i j:Nat} {t:Tr} (h:list s i=.ok (t,j)):i < j∧j≤s.size∧t.lab.min=-1∧t.lab.max=0:=by
 unfold list at h
 simp only [] at h
 cases h1:items s (s.size+1) (fun _=>false) (if isAt s i 94=true then i+1 else i) with
 | error f=>simp [h1] at h
 | ok v=>
  obtain⟨set,k⟩:=v
  have g:=items_in h1
  simp only [h1] at h
  cases h
  split at g<;>simp [blank]<;>omega
theorem atom_good {s:ByteArray} {d:Nat} {sub:At→Res (Tr×At)} (hs:Good s sub) {x:At} {t:Tr} {y:At} (h:atom sub s d x=.ok (t,y)) (h0:0≤x.t) (h9:x.t≤9):x.i < y.i∧y.i≤s.size∧0≤y.t∧y.t≤9∧t.lab.min=-1∧t.lab.max=0:=by
 unfold atom at h
 by_cases c1:isAt s x.i 40=true
 ·rw [if_pos c1] at h;exact group_good hs h (isAt_lt c1) h0 h9
 rw [if_neg c1] at h
 by_cases c2:isAt s x.i 91=true
 ·rw [if_pos c2] at h
  cases h1:list s (x.i+1) with
  | error f=>simp [h1] at h
  | ok v=>obtain⟨t',j⟩:=v;simp [h1] at h;obtain⟨rfl,rfl⟩:=h;have:=list_in h1;simp;omega
 rw [if_neg c2] at h
 by_cases c3:isAt s x.i 46=true
 ·rw [if_pos c3] at h;cases h;have:=isAt_lt c3;simp [blank];omega
 rw [if_neg c3] at h
 cases h1:byteBut false s x.i with
 | error f=>simp [h1] at h
 | ok v=>obtain⟨b,j⟩:=v;simp [h1] at h;obtain⟨rfl,rfl⟩:=h;have:=byteBut_in h1;simp [blank];omega
theorem digits_in {s:ByteArray} {i:Nat} (h:digitAt s i=true):i < (digits s i).2∧(digits s i).2≤s.size:=by
 simp [digitAt] at h
 unfold digits;split
 ·rename_i q;have:=q.2;simp [digitAt] at this;simp;omega
 ·simp;omega
theorem number_in {m:Int} {s:ByteArray} {i j:Nat} {v:Int} (h:number m s i=.ok (v,j)):i < j∧j≤s.size:=by
 unfold number at h;split at h
 ·rename_i hd
  split at h
  ·cases h
  ·have e:digits s i=(v,j):=by simpa using h
   have:=digits_in hd;rw [e] at this;exact this
 ·cases h
theorem bounds_in {s:ByteArray} {i j:Nat} {m n:Int} (h:bounds s i=.ok (m,n,j)):i < j∧j≤s.size:=by
 unfold bounds at h
 cases h1:number 0 s i with
 | error f=>simp [h1] at h
 | ok v=>
  obtain⟨m',j'⟩:=v
  have g:=number_in h1
  simp only [h1] at h
  split at h
  ·split at h
   ·cases h2:number m' s (j'+1) with
    | error f=>simp [h2] at h
    | ok v=>
     obtain⟨n',k'⟩:=v
     have g':=number_in h2
     simp only [h2] at h
     cases h3:need 125 s k' with
     | error f=>simp [h3] at h
     | ok l=>simp [h3] at h;have:=need_ok h3;omega
   ·cases h3:need 125 s (j'+1) with
    | error f=>simp [h3] at h
    | ok l=>simp [h3] at h;have:=need_ok h3;omega
  ·cases h3:need 125 s j' with
   | error f=>simp [h3] at h
   | ok l=>simp [h3] at h;have:=need_ok h3;omega
theorem count_in {s:ByteArray} {i j:Nat} {m n:Int} (h:count s i=.ok (m,n,j)) (hi:i≤s.size):i≤j∧j≤s.size:=by
 unfold count at h
 by_cases c1:isAt s i 42=true
 ·rw [if_pos c1] at h;cases h;have:=isAt_lt c1;omega
 rw [if_neg c1] at h
 by_cases c2:isAt s i 43=true
 ·rw [if_pos c2] at h;cases h;have:=isAt_lt c2;omega
 rw [if_neg c2] at h
 by_cases c3:isAt s i 63=true
 ·rw [if_pos c3] at h;cases h;have:=isAt_lt c3;omega
 rw [if_neg c3] at h
 by_cases c4:isAt s i 123=true
 ·rw [if_pos c4] at h;have:=bounds_in h;omega
 rw [if_neg c4] at h;cases h;omega
theorem part_good {s:ByteArray} {d:Nat} {sub:At→Res (Tr×At)} (hs:Good s sub) {x:At} {t:Tr} {y:At} (h:part sub s d x=.ok (t,y)) (h0:0≤x.t) (h9:x.t≤9):x.i < y.i∧y.i≤s.size∧0≤y.t∧y.t≤9:=by
 unfold part at h
 cases h1:atom sub s d x with
 | error f=>simp [h1] at h
 | ok v=>
  obtain⟨t',z⟩:=v
  have g:=atom_good hs h1 h0 h9
  cases h2:count s z.i with
  | error f=>simp [h1,h2] at h
  | ok v=>obtain⟨m,n,j⟩:=v;simp [h1,h2] at h;obtain⟨rfl,rfl⟩:=h;have:=count_in h2 g.2.1;simp;omega
theorem parts_good {s:ByteArray} {d:Nat} {sub:At→Res (Tr×At)} (hs:Good s sub):∀ {n:Nat} {l:List Tr} {x:At} {l':List Tr} {y:At},parts sub s d n l x=.ok (l',y)→x.i≤s.size→0≤x.t→x.t≤9→x.i≤y.i∧y.i≤s.size∧0≤y.t∧y.t≤9
 | 0,_,_,_,_,h,_,_,_=>by cases h
 | n+1,l,x,l',y,h,hi,h0,h9=>by
  unfold parts at h
  split at h
  ·cases h;omega
  ·cases h1:part sub s d x with
   | error f=>simp [h1] at h
   | ok v=>
    obtain⟨t',z⟩:=v
    have g:=part_good hs h1 h0 h9
    simp only [h1] at h
    have:=parts_good hs h g.2.1 g.2.2.1 g.2.2.2
    omega
theorem row_good {s:ByteArray} {d:Nat} {sub:At→Res (Tr×At)} (hs:Good s sub):Good s (row sub s d):=by
 intro x t y h hi h0 h9
 unfold row at h
 cases h1:parts sub s d (s.size+1) [] x with
 | error f=>simp [h1] at h
 | ok v=>obtain⟨l,z⟩:=v;simp [h1] at h;obtain⟨rfl,rfl⟩:=h;exact parts_good hs h1 hi h0 h9
theorem rows_good {s:ByteArray} {d:Nat} {sub:At→Res (Tr×At)} (hs:Good s sub):∀ {n:Nat} {l:List Tr} {x:At} {l':List Tr} {y:At},rows sub s d n l x=.ok (l',y)→x.i≤s.size→0≤x.t→x.t≤9→x.i≤y.i∧y.i≤s.size∧0≤y.t∧y.t≤9
 | 0,_,_,_,_,h,_,_,_=>by cases h
 | n+1,l,x,l',y,h,hi,h0,h9=>by
  unfold rows at h
  cases h1:row sub s d x with
  | error f=>simp [h1] at h
  | ok v=>
   obtain⟨t',z⟩:=v
   have g:=row_good hs x t' z h1 hi h0 h9
   simp only [h1] at h
   split at h
   ·rename_i q
    have:=rows_good hs h (by have:=isAt_lt q;simp;omega) g.2.2.1 g.2.2.2
    simp at this;omega
   ·cases h;exact g
theorem choice_good (s:ByteArray):∀ k,Good s (choice s k)
 | 0=>by intro x t y h;cases h
 | k+1=>by
  intro x t y h hi h0 h9
  unfold choice at h
  cases h1:rows (choice s k) s (8 - k) (s.size+1) [] x with
  | error f=>simp [h1] at h
  | ok v=>obtain⟨l,z⟩:=v;simp [h1] at h;obtain⟨rfl,rfl⟩:=h;exact rows_good (choice_good s k) h1 hi h0 h9
end Sp
end Go.Proofs.YtcpfpnjkfahjcaaGreat
/- The size of a pattern: no program is named here. -/
namespace Go.Proofs.YtcpfpnjkfahjcaaGreat
namespace Sp
def sz1 (a:Lab) (n:Int):Int:=
 if a.min < 0 then (if a.kind=3 then max n 1 else n)
 else if a.max < 0 then min ((if a.kind=3 then max n 1 else n) * max a.min 1) 1000000
 else min ((if a.kind=3 then max n 1 else n) * a.max) 1000000
def szB (a:Lab):Int:=if a.kind≤2 then 1 else 0
def sizes (acc:Int):List Tr→Int
 | []=>acc
 | ⟨a,ks⟩::r=>sizes (min (acc+sz1 a (sizes (szB a) ks)) 1000000) r
def size (t:Tr):Int:=sz1 t.lab (sizes (szB t.lab) t.kids)
theorem sizes_cons (acc:Int) (t:Tr) (r:List Tr):sizes acc (t::r)=sizes (min (acc+size t) 1000000) r:=by
 obtain⟨a,ks⟩:=t;rw [sizes];rfl
theorem sizes_snoc (t:Tr):∀ (l:List Tr) (acc:Int),sizes acc (l++[t])=min (sizes acc l+size t) 1000000
 | [],acc=>by show sizes acc [t]=_;rw [sizes_cons,sizes,sizes]
 | u::r,acc=>by show sizes acc (u::(r++[t]))=_;rw [sizes_cons,sizes_cons,sizes_snoc t r]
structure LabOK (a:Lab):Prop where
 kind:a.kind≤5
 min0:-1≤a.min
 min1:a.min≤20
 max0:-1≤a.max
 max1:a.max≤20
 byte:a.kind=0→a.byte < 256∧∀ c,c < 256→a.set c=(c == a.byte)
def TrsOK:List Tr→Prop
 | []=>True
 | ⟨a,ks⟩::r=>LabOK a∧TrsOK ks∧TrsOK r
theorem TrsOK_cons (t:Tr) (r:List Tr):TrsOK (t::r)=(LabOK t.lab∧TrsOK t.kids∧TrsOK r):=by obtain⟨a,ks⟩:=t;rw [TrsOK]
theorem TrsOK_nil:TrsOK []:=by unfold TrsOK;trivial
theorem TrsOK_append:∀ (l:List Tr) (m:List Tr),TrsOK l→TrsOK m→TrsOK (l++m)
 | [],_,_,h=>h
 | t::r,m,h,k=>by
  rw [TrsOK_cons] at h
  show TrsOK (t::(r++m))
  rw [TrsOK_cons];exact⟨h.1,h.2.1,TrsOK_append r m h.2.2 k⟩
theorem TrsOK_mem:∀ (l:List Tr) (t:Tr),TrsOK l→t∈l→LabOK t.lab∧TrsOK t.kids
 | [],t,_,h=>by simp at h
 | u::r,t,h,m=>by
  rw [TrsOK_cons] at h
  rcases List.mem_cons.1 m with rfl|m
  ·exact⟨h.1,h.2.1⟩
  ·exact TrsOK_mem r t h.2.2 m
theorem sz1_bd {a:Lab} (ha:LabOK a) {n:Int} (h0:0≤n) (h1:n≤1000000):0≤sz1 a n∧sz1 a n≤1000000:=by
 have hm:0≤(if a.kind=3 then max n 1 else n):=by split<;>omega
 have hM:(if a.kind=3 then max n 1 else n)≤1000000:=by split<;>omega
 unfold sz1
 split
 ·omega
 ·split
  ·have:0≤(if a.kind=3 then max n 1 else n) * max a.min 1:=Int.mul_nonneg hm (by omega)
   omega
  ·have:0≤(if a.kind=3 then max n 1 else n) * a.max:=Int.mul_nonneg hm (by omega)
   omega
theorem sizes_bd:∀ (l:List Tr) (acc:Int),TrsOK l→0≤acc→acc≤1000000→0≤sizes acc l∧sizes acc l≤1000000
 | [],acc,_,h0,h1=>by rw [sizes];exact⟨h0,h1⟩
 | ⟨a,ks⟩::r,acc,h,h0,h1=>by
  rw [TrsOK] at h
  rw [sizes]
  have b:=sizes_bd ks (szB a) h.2.1 (by unfold szB;split<;>omega) (by unfold szB;split<;>omega)
  have c:=sz1_bd h.1 b.1 b.2
  exact sizes_bd r _ h.2.2 (by omega) (by omega)
theorem size_bd (t:Tr) (ha:LabOK t.lab) (hk:TrsOK t.kids):0≤size t∧size t≤1000000:=by
 have b:=sizes_bd t.kids (szB t.lab) hk (by unfold szB;split<;>omega) (by unfold szB;split<;>omega)
 exact sz1_bd ha b.1 b.2
end Sp
end Go.Proofs.YtcpfpnjkfahjcaaGreat
/- What a pattern that was read is: no program is named here. -/
namespace Go.Proofs.YtcpfpnjkfahjcaaGreat
namespace Sp
theorem digits_le {s:ByteArray} {i:Nat} (h:digitAt s i=true):0≤(digits s i).1:=by
 simp [digitAt] at h
 unfold digits;split
 ·rename_i q;have:=q.2;simp [digitAt] at this;simp;omega
 ·simp;omega
theorem number_bd {m:Int} {s:ByteArray} {i j:Nat} {v:Int} (h:number m s i=.ok (v,j)):0≤v∧v≤20:=by
 unfold number at h;split at h
 ·rename_i hd
  split at h
  ·cases h
  ·rename_i q
   have e:digits s i=(v,j):=by simpa using h
   have:=digits_le hd;rw [e] at this q;simp at q this;omega
 ·cases h
theorem bounds_bd {s:ByteArray} {i j:Nat} {m n:Int} (h:bounds s i=.ok (m,n,j)):-1≤m∧m≤20∧-1≤n∧n≤20:=by
 unfold bounds at h
 cases h1:number 0 s i with
 | error f=>simp [h1] at h
 | ok v=>
  obtain⟨m',j'⟩:=v
  have g:=number_bd h1
  simp only [h1] at h
  split at h
  ·split at h
   ·cases h2:number m' s (j'+1) with
    | error f=>simp [h2] at h
    | ok v=>
     obtain⟨n',k'⟩:=v
     have g':=number_bd h2
     simp only [h2] at h
     cases h3:need 125 s k' with
     | error f=>simp [h3] at h
     | ok l=>simp [h3] at h;omega
   ·cases h3:need 125 s (j'+1) with
    | error f=>simp [h3] at h
    | ok l=>simp [h3] at h;omega
  ·cases h3:need 125 s j' with
   | error f=>simp [h3] at h
   | ok l=>simp [h3] at h;omega
theorem count_bd {s:ByteArray} {i j:Nat} {m n:Int} (h:count s i=.ok (m,n,j)):-1≤m∧m≤20∧-1≤n∧n≤20:=by
 unfold count at h
 by_cases c1:isAt s i 42=true
 ·rw [if_pos c1] at h;cases h;omega
 rw [if_neg c1] at h
 by_cases c2:isAt s i 43=true
 ·rw [if_pos c2] at h;cases h;omega
 rw [if_neg c2] at h
 by_cases c3:isAt s i 63=true
 ·rw [if_pos c3] at h;cases h;omega
 rw [if_neg c3] at h
 by_cases c4:isAt s i 123=true
 ·rw [if_pos c4] at h;exact bounds_bd h
 rw [if_neg c4] at h;cases h;omega
theorem Few_cons (t:Tr) (r:List Tr):Few (t::r)=(t.kids.length≤1000∧Few t.kids∧Few r):=by obtain⟨a,ks⟩:=t;rw [Few]
theorem Few_nil:Few []:=by unfold Few;trivial
theorem Few_append:∀ (l:List Tr) (m:List Tr),Few l→Few m→Few (l++m)
 | [],_,_,h=>h
 | t::r,m,h,k=>by
  rw [Few_cons] at h
  show Few (t::(r++m))
  rw [Few_cons];exact⟨h.1,h.2.1,Few_append r m h.2.2 k⟩
def Made (l:List Tr):Prop:=TrsOK l∧Few l
theorem Made.nil:Made []:=⟨TrsOK_nil,Few_nil⟩
theorem Made.append {l m:List Tr} (h:Made l) (k:Made m):Made (l++m):=⟨TrsOK_append l m h.1 k.1,Few_append l m h.2 k.2⟩
theorem Made.one {a:Lab} {ks:List Tr} (ha:LabOK a) (hk:Made ks) (hl:ks.length≤1000):Made [⟨a,ks⟩]:=by
 refine⟨?_,?_⟩
 ·rw [TrsOK];exact⟨ha,hk.1,TrsOK_nil⟩
 ·rw [Few];exact⟨hl,hk.2,Few_nil⟩
theorem Made.lab {t:Tr} (h:Made [t]):LabOK t.lab∧Made t.kids∧t.kids.length≤1000:=by
 obtain⟨h1,h2⟩:=h
 rw [TrsOK_cons] at h1;rw [Few_cons] at h2
 exact⟨h1.1,⟨h1.2.1,h2.2.1⟩,h2.1⟩
def Makes (s:ByteArray) (f:At→Res (Tr×At)):Prop:=∀ x t y,f x=.ok (t,y)→x.i≤s.size→0≤x.t→x.t≤9→Made [t]
theorem list_makes {s:ByteArray} {i j:Nat} {t:Tr} (h:list s i=.ok (t,j)):Made [t]:=by
 unfold list at h
 simp only [] at h
 cases h1:items s (s.size+1) (fun _=>false) (if isAt s i 94=true then i+1 else i) with
 | error f=>simp [h1] at h
 | ok v=>
  obtain⟨set,k⟩:=v
  simp only [h1] at h
  cases h
  exact Made.one ⟨by simp,by simp [blank],by simp [blank],by simp [blank],by simp [blank],by simp⟩ Made.nil (by simp)
theorem atom_makes {s:ByteArray} {d:Nat} {sub:At→Res (Tr×At)} (hg:Good s sub) (hs:Makes s sub) {x:At} {t:Tr} {y:At} (h:atom sub s d x=.ok (t,y)) (h0:0≤x.t) (h9:x.t≤9):Made [t]:=by
 unfold atom at h
 by_cases c1:isAt s x.i 40=true
 ·rw [if_pos c1] at h
  unfold group at h
  cases hh:head s d x with
  | error f=>rw [hh] at h;cases h
  | ok v=>
   obtain⟨k,z⟩:=v
   rw [hh] at h
   have a:=head_ok hh (isAt_lt c1) h0 h9
   cases hb:sub z with
   | error f=>simp [hb] at h
   | ok v=>
    obtain⟨t',u⟩:=v
    have b:=hs z t' u hb a.2.1 a.2.2.1 a.2.2.2
    cases hn:need 41 s u.i with
    | error f=>simp [hb,hn] at h
    | ok j=>
     simp [hb,hn] at h;obtain⟨rfl,rfl⟩:=h
     exact Made.one ⟨by simp,by simp [blank],by simp [blank],by simp [blank],by simp [blank],by simp⟩ b (by simp)
 rw [if_neg c1] at h
 by_cases c2:isAt s x.i 91=true
 ·rw [if_pos c2] at h
  cases h1:list s (x.i+1) with
  | error f=>simp [h1] at h
  | ok v=>obtain⟨t',j⟩:=v;simp [h1] at h;obtain⟨rfl,rfl⟩:=h;exact list_makes h1
 rw [if_neg c2] at h
 by_cases c3:isAt s x.i 46=true
 ·rw [if_pos c3] at h;cases h
  exact Made.one ⟨by simp,by simp [blank],by simp [blank],by simp [blank],by simp [blank],by simp⟩ Made.nil (by simp)
 rw [if_neg c3] at h
 cases h1:byteBut false s x.i with
 | error f=>simp [h1] at h
 | ok v=>
  obtain⟨b,j⟩:=v
  simp [h1] at h;obtain⟨rfl,rfl⟩:=h
  have:=byteBut_ok h1
  exact Made.one ⟨by simp,by simp [blank],by simp [blank],by simp [blank],by simp [blank],fun _=>⟨by simp;omega,fun c _=>rfl⟩⟩ Made.nil (by simp)
theorem part_makes {s:ByteArray} {d:Nat} {sub:At→Res (Tr×At)} (hg:Good s sub) (hs:Makes s sub) {x:At} {t:Tr} {y:At} (h:part sub s d x=.ok (t,y)) (h0:0≤x.t) (h9:x.t≤9):Made [t]:=by
 unfold part at h
 cases h1:atom sub s d x with
 | error f=>simp [h1] at h
 | ok v=>
  obtain⟨t',z⟩:=v
  have g:=(atom_makes hg hs h1 h0 h9).lab
  cases h2:count s z.i with
  | error f=>simp [h1,h2] at h
  | ok v=>
   obtain⟨m,n,j⟩:=v
   simp [h1,h2] at h;obtain⟨rfl,rfl⟩:=h
   have c:=count_bd h2
   exact Made.one ⟨g.1.kind,c.1,c.2.1,c.2.2.1,c.2.2.2,g.1.byte⟩ g.2.1 g.2.2
theorem parts_makes {s:ByteArray} {d:Nat} {sub:At→Res (Tr×At)} (hg:Good s sub) (hs:Makes s sub):∀ {n:Nat} {l:List Tr} {x:At} {l':List Tr} {y:At},parts sub s d n l x=.ok (l',y)→x.i≤s.size→0≤x.t→x.t≤9→Made l→l.length≤x.i→Made l'∧l'.length≤y.i
 | 0,_,_,_,_,h,_,_,_,_,_=>by cases h
 | n+1,l,x,l',y,h,hi,h0,h9,hl,hn=>by
  unfold parts at h
  split at h
  ·cases h;exact⟨hl,hn⟩
  ·cases h1:part sub s d x with
   | error f=>simp [h1] at h
   | ok v=>
    obtain⟨t',z⟩:=v
    have g:=part_good hg h1 h0 h9
    simp only [h1] at h
    exact parts_makes hg hs h g.2.1 g.2.2.1 g.2.2.2 (hl.append (part_makes hg hs h1 h0 h9)) (by simp;omega)
theorem row_makes {s:ByteArray} {d:Nat} {sub:At→Res (Tr×At)} (hz:s.size≤200) (hg:Good s sub) (hs:Makes s sub):Makes s (row sub s d):=by
 intro x t y h hi h0 h9
 unfold row at h
 cases h1:parts sub s d (s.size+1) [] x with
 | error f=>simp [h1] at h
 | ok v=>
  obtain⟨l,z⟩:=v
  simp [h1] at h;obtain⟨rfl,rfl⟩:=h
  have a:=parts_makes hg hs h1 hi h0 h9 Made.nil (by simp)
  have b:=parts_good hg h1 hi h0 h9
  exact Made.one ⟨by simp,by simp [blank],by simp [blank],by simp [blank],by simp [blank],by simp⟩ a.1 (by omega)
theorem rows_makes {s:ByteArray} {d:Nat} {sub:At→Res (Tr×At)} (hz:s.size≤200) (hg:Good s sub) (hs:Makes s sub):∀ {n:Nat} {l:List Tr} {x:At} {l':List Tr} {y:At},rows sub s d n l x=.ok (l',y)→x.i≤s.size→0≤x.t→x.t≤9→Made l→l.length≤x.i→Made l'∧l'.length≤y.i+1
 | 0,_,_,_,_,h,_,_,_,_,_=>by cases h
 | n+1,l,x,l',y,h,hi,h0,h9,hl,hn=>by
  unfold rows at h
  cases h1:row sub s d x with
  | error f=>simp [h1] at h
  | ok v=>
   obtain⟨t',z⟩:=v
   have g:=row_good hg x t' z h1 hi h0 h9
   have m:=row_makes hz hg hs x t' z h1 hi h0 h9
   simp only [h1] at h
   split at h
   ·rename_i q
    exact rows_makes hz hg hs h (by have:=isAt_lt q;simp;omega) g.2.2.1 g.2.2.2 (hl.append m) (by simp;omega)
   ·cases h;exact⟨hl.append m,by simp;omega⟩
theorem choice_makes (s:ByteArray) (hz:s.size≤200):∀ k,Makes s (choice s k)
 | 0=>by intro x t y h;cases h
 | k+1=>by
  intro x t y h hi h0 h9
  unfold choice at h
  cases h1:rows (choice s k) s (8 - k) (s.size+1) [] x with
  | error f=>simp [h1] at h
  | ok v=>
   obtain⟨l,z⟩:=v
   simp [h1] at h;obtain⟨rfl,rfl⟩:=h
   have a:=rows_makes hz (choice_good s k) (choice_makes s hz k) h1 hi h0 h9 Made.nil (by simp)
   have b:=rows_good (choice_good s k) h1 hi h0 h9
   exact Made.one ⟨by simp,by simp [blank],by simp [blank],by simp [blank],by simp [blank],by simp⟩ a.1 (by omega)
def read (s:ByteArray):Res (Tr×Int):=
 if s.size > 200 then .error (2,0)
 else match choice s 9 ⟨0,0⟩ with
  | .error f=>.error f
  | .ok (t,y)=>if y.i < s.size then .error (3,y.i) else if size t > 60 then .error (7,0) else .ok (t,y.t)
end Sp
end Go.Proofs.YtcpfpnjkfahjcaaGreat
/- Printing: no program is named here. -/
namespace Go.Proofs.YtcpfpnjkfahjcaaGreat
namespace Sp
def u8 (n:Int):UInt8:=UInt8.ofNat n.toNat
def digs (n:Int):List UInt8:=if 9 < n then [u8 (48+n / 10),u8 (48+n % 10)] else [u8 (48+n)]
def hexB (n:Int):UInt8:=if n≤9 then u8 (48+n) else u8 (87+n)
def shown (c:Int) (l:Bool):List UInt8:=
 if c=10 then [92,110]
 else if c=9 then [92,116]
 else if c < 33∨126 < c then [92,120,hexB (c / 16),hexB (c % 16)]
 else if (if l then listSign c else sign c) then [92,u8 c]
 else [u8 c]
end Sp
def str (l:List UInt8):ByteArray:=⟨l.toArray⟩
end Go.Proofs.YtcpfpnjkfahjcaaGreat
/- Lists as they are printed: no program is named here. -/
namespace Go.Proofs.YtcpfpnjkfahjcaaGreat
namespace Sp
def runLast (f:Nat→Bool):Nat→Nat→Nat
 | 0,c=>c
 | n+1,c=>if c < 255∧f (c+1)=true then runLast f n (c+1) else c
def piece (c last:Nat):List UInt8:=
 if last=c then shown c true else if last=c+1 then shown c true++shown last true else shown c true++[45]++shown last true
def listedFrom (f:Nat→Bool):Nat→Nat→List UInt8
 | 0,_=>[]
 | n+1,c=>if c < 256 then (if f c then piece c (runLast f 256 c)++listedFrom f n (runLast f 256 c+1) else listedFrom f n (c+1)) else []
def listed (f:Nat→Bool):List UInt8:=listedFrom f 257 0
end Sp
end Go.Proofs.YtcpfpnjkfahjcaaGreat
/- A pattern as text: no program is named here. -/
namespace Go.Proofs.YtcpfpnjkfahjcaaGreat
namespace Sp
def bare1 (a:Lab) (inner:List UInt8):List UInt8:=
 if a.kind=1 then [46]
 else if a.kind=0 then shown a.byte false
 else if a.kind=2 then (if a.not then [91,94] else [91])++listed a.set++[93]
 else if a.kind=3 then (if a.told then [40] else [40,63,58])++inner++[41]
 else inner
def cnt (a:Lab):List UInt8:=
 if a.min < 0 then []
 else if a.min=0∧a.max < 0 then [42]
 else if a.min=1∧a.max < 0 then [43]
 else if a.min=0∧a.max=1 then [63]
 else if a.max < 0 then [123]++digs a.min++[44,125]
 else if a.min=a.max then [123]++digs a.min++[125]
 else [123]++digs a.min++[44]++digs a.max++[125]
def texts (bar:Bool):Bool→List Tr→List UInt8
 | _,[]=>[]
 | first,⟨a,ks⟩::r=>(if bar && !first then [124] else [])++(bare1 a (texts (a.kind == 4) true ks)++cnt a)++texts bar false r
def bareT (t:Tr):List UInt8:=bare1 t.lab (texts (t.lab.kind == 4) true t.kids)
def text (t:Tr):List UInt8:=bareT t++cnt t.lab
def nodes:List Tr→Nat
 | []=>0
 | ⟨_,ks⟩::r=>1+nodes ks+nodes r
theorem nodes_cons (t:Tr) (r:List Tr):nodes (t::r)=1+nodes t.kids+nodes r:=by obtain⟨a,ks⟩:=t;rw [nodes]
theorem nodes_append:∀ (l m:List Tr),nodes (l++m)=nodes l+nodes m
 | [],m=>by simp [nodes]
 | t::r,m=>by show nodes (t::(r++m))=_;rw [nodes_cons,nodes_cons,nodes_append r m];omega
end Sp
end Go.Proofs.YtcpfpnjkfahjcaaGreat
/- How many nodes a pattern has,and what printing it answers: no program is named here. -/
namespace Go.Proofs.YtcpfpnjkfahjcaaGreat
namespace Sp
def Nods (f:At→Res (Tr×At)) (s:ByteArray):Prop:=∀ x t y,f x=.ok (t,y)→x.i≤s.size→0≤x.t→x.t≤9→nodes [t]≤2 * (y.i - x.i)+2
theorem nodes_one (a:Lab) (ks:List Tr):nodes [⟨a,ks⟩]=1+nodes ks:=by rw [nodes,nodes];rfl
theorem list_nods {s:ByteArray} {i j:Nat} {t:Tr} (h:list s i=.ok (t,j)):nodes [t]=1:=by
 unfold list at h
 simp only [] at h
 cases h1:items s (s.size+1) (fun _=>false) (if isAt s i 94=true then i+1 else i) with
 | error f=>simp [h1] at h
 | ok v=>obtain⟨set,k⟩:=v;simp only [h1] at h;cases h;rw [nodes_one,nodes]
theorem head_far {s:ByteArray} {d:Nat} {x:At} {k:Nat} {y:At} (h:head s d x=.ok (k,y)):x.i+1≤y.i:=by
 unfold head at h
 by_cases h1:8≤d
 ·rw [if_pos h1] at h;cases h
 rw [if_neg h1] at h
 by_cases h2:isAt s (x.i+1) 63=true
 ·rw [if_pos h2] at h
  cases hn:need 58 s (x.i+2) with
  | error f=>rw [hn] at h;cases h
  | ok j=>rw [hn] at h;cases h;have:=need_ok hn;simp;omega
 rw [if_neg h2] at h
 by_cases h3:9≤x.t
 ·rw [if_pos h3] at h;cases h
 rw [if_neg h3] at h;cases h;simp
theorem atom_nods {s:ByteArray} {d:Nat} {sub:At→Res (Tr×At)} (hg:Good s sub) (hs:Nods sub s) {x:At} {t:Tr} {y:At} (h:atom sub s d x=.ok (t,y)) (h0:0≤x.t) (h9:x.t≤9):nodes [t]≤2 * (y.i - x.i):=by
 have hgood:=atom_good hg h h0 h9
 unfold atom at h
 by_cases c1:isAt s x.i 40=true
 ·rw [if_pos c1] at h
  unfold group at h
  cases hh:head s d x with
  | error f=>rw [hh] at h;cases h
  | ok v=>
   obtain⟨k,z⟩:=v
   rw [hh] at h
   have a:=head_ok hh (isAt_lt c1) h0 h9
   have a':=head_far hh
   cases hb:sub z with
   | error f=>simp [hb] at h
   | ok v=>
    obtain⟨t',u⟩:=v
    have b:=hs z t' u hb a.2.1 a.2.2.1 a.2.2.2
    have b':=hg z t' u hb a.2.1 a.2.2.1 a.2.2.2
    cases hn:need 41 s u.i with
    | error f=>simp [hb,hn] at h
    | ok j=>
     simp [hb,hn] at h;obtain⟨rfl,rfl⟩:=h
     have:=need_ok hn
     rw [nodes_one];simp;omega
 rw [if_neg c1] at h
 by_cases c2:isAt s x.i 91=true
 ·rw [if_pos c2] at h
  cases h1:list s (x.i+1) with
  | error f=>simp [h1] at h
  | ok v=>obtain⟨t',j⟩:=v;simp [h1] at h;obtain⟨rfl,rfl⟩:=h;rw [list_nods h1];omega
 rw [if_neg c2] at h
 by_cases c3:isAt s x.i 46=true
 ·rw [if_pos c3] at h;cases h;rw [nodes_one,nodes];omega
 rw [if_neg c3] at h
 cases h1:byteBut false s x.i with
 | error f=>simp [h1] at h
 | ok v=>obtain⟨b,j⟩:=v;simp [h1] at h;obtain⟨rfl,rfl⟩:=h;rw [nodes_one,nodes];omega
theorem part_nods {s:ByteArray} {d:Nat} {sub:At→Res (Tr×At)} (hg:Good s sub) (hs:Nods sub s) {x:At} {t:Tr} {y:At} (h:part sub s d x=.ok (t,y)) (h0:0≤x.t) (h9:x.t≤9):nodes [t]≤2 * (y.i - x.i):=by
 unfold part at h
 cases h1:atom sub s d x with
 | error f=>simp [h1] at h
 | ok v=>
  obtain⟨t',z⟩:=v
  have g:=atom_nods hg hs h1 h0 h9
  have g':=atom_good hg h1 h0 h9
  cases h2:count s z.i with
  | error f=>simp [h1,h2] at h
  | ok v=>
   obtain⟨m,n,j⟩:=v
   simp [h1,h2] at h;obtain⟨rfl,rfl⟩:=h
   have:=count_in h2 g'.2.1
   obtain⟨la,ks⟩:=t'
   rw [nodes_one] at g
   rw [nodes_one];simp;omega
theorem parts_nods {s:ByteArray} {d:Nat} {sub:At→Res (Tr×At)} (hg:Good s sub) (hs:Nods sub s):∀ {n:Nat} {l:List Tr} {x:At} {l':List Tr} {y:At},parts sub s d n l x=.ok (l',y)→x.i≤s.size→0≤x.t→x.t≤9→nodes l'≤nodes l+2 * (y.i - x.i)
 | 0,_,_,_,_,h,_,_,_=>by cases h
 | n+1,l,x,l',y,h,hi,h0,h9=>by
  unfold parts at h
  split at h
  ·cases h;omega
  ·cases h1:part sub s d x with
   | error f=>simp [h1] at h
   | ok v=>
    obtain⟨t',z⟩:=v
    have g:=part_good hg h1 h0 h9
    have m:=part_nods hg hs h1 h0 h9
    simp only [h1] at h
    have r:=parts_nods hg hs h g.2.1 g.2.2.1 g.2.2.2
    have q:=parts_good hg h g.2.1 g.2.2.1 g.2.2.2
    rw [nodes_append] at r
    omega
theorem row_nods {s:ByteArray} {d:Nat} {sub:At→Res (Tr×At)} (hg:Good s sub) (hs:Nods sub s) {x:At} {t:Tr} {y:At} (h:row sub s d x=.ok (t,y)) (hi:x.i≤s.size) (h0:0≤x.t) (h9:x.t≤9):nodes [t]≤2 * (y.i - x.i)+1:=by
 unfold row at h
 cases h1:parts sub s d (s.size+1) [] x with
 | error f=>simp [h1] at h
 | ok v=>
  obtain⟨l,z⟩:=v
  simp [h1] at h;obtain⟨rfl,rfl⟩:=h
  have a:=parts_nods hg hs h1 hi h0 h9
  rw [nodes_one];simp [nodes] at a;omega
theorem rows_nods {s:ByteArray} {d:Nat} {sub:At→Res (Tr×At)} (hg:Good s sub) (hs:Nods sub s):∀ {n:Nat} {l:List Tr} {x:At} {l':List Tr} {y:At},rows sub s d n l x=.ok (l',y)→x.i≤s.size→0≤x.t→x.t≤9→nodes l'≤nodes l+2 * (y.i - x.i)+1
 | 0,_,_,_,_,h,_,_,_=>by cases h
 | n+1,l,x,l',y,h,hi,h0,h9=>by
  unfold rows at h
  cases h1:row sub s d x with
  | error f=>simp [h1] at h
  | ok v=>
   obtain⟨t',z⟩:=v
   have g:=row_good hg x t' z h1 hi h0 h9
   have m:=row_nods hg hs h1 hi h0 h9
   simp only [h1] at h
   split at h
   ·rename_i q
    have q':=isAt_lt q
    have r:=rows_nods hg hs h (by simp;omega) g.2.2.1 g.2.2.2
    have r':=rows_good hg h (by simp;omega) g.2.2.1 g.2.2.2
    rw [nodes_append] at r
    simp at r r';omega
   ·cases h;rw [nodes_append];omega
theorem choice_nods (s:ByteArray):∀ k,Nods (choice s k) s
 | 0=>by intro x t y h;cases h
 | k+1=>by
  intro x t y h hi h0 h9
  unfold choice at h
  cases h1:rows (choice s k) s (8 - k) (s.size+1) [] x with
  | error f=>simp [h1] at h
  | ok v=>
   obtain⟨l,z⟩:=v
   simp [h1] at h;obtain⟨rfl,rfl⟩:=h
   have a:=rows_nods (choice_good s k) (choice_nods s k) h1 hi h0 h9
   rw [nodes_one];simp [nodes] at a;omega
theorem read_nods {s:ByteArray} {t:Tr} {n:Int} (h:read s=.ok (t,n)):nodes [t]≤402:=by
 unfold read at h
 split at h
 ·cases h
 ·cases h1:choice s 9 ⟨0,0⟩ with
  | error f=>simp [h1] at h
  | ok v=>
   obtain⟨t',y⟩:=v
   have a:=choice_nods s 9 ⟨0,0⟩ t' y h1 (Nat.zero_le _) (by decide) (by decide)
   have b:=choice_good s 9 ⟨0,0⟩ t' y h1 (Nat.zero_le _) (by decide) (by decide)
   simp only [h1] at h
   split at h
   ·cases h
   ·split at h
    ·cases h
    ·cases h;simp at a;omega
end Sp
theorem tup3 {a b c x y z:Value} (h:a=x) (k:b=y) (l:c=z):Ending.returned (.tuple #[a,b,c])=.returned (.tuple #[x,y,z]):=by rw [h,k,l]
end Go.Proofs.YtcpfpnjkfahjcaaGreat
/- A group's number tells whether it is told: no program is named here. -/
namespace Go.Proofs.YtcpfpnjkfahjcaaGreat
namespace Sp
end Sp
end Go.Proofs.YtcpfpnjkfahjcaaGreat
/- An error has a number that is not 0: no program is named here. -/
namespace Go.Proofs.YtcpfpnjkfahjcaaGreat
namespace Sp
theorem number_code {m:Int} {s:ByteArray} {i:Nat} {e a:Int} (h:number m s i=.error (e,a)):e≠0:=by
 unfold number at h;split at h
 ·split at h
  ·cases h;decide
  ·cases h
 ·cases h;decide
theorem need_code {c:Int} {s:ByteArray} {i:Nat} {e a:Int} (h:need c s i=.error (e,a)):e≠0:=by
 unfold need at h;split at h
 ·cases h
 ·cases h;decide
theorem bounds_code {s:ByteArray} {i:Nat} {e a:Int} (h:bounds s i=.error (e,a)):e≠0:=by
 unfold bounds at h
 cases h1:number 0 s i with
 | error f=>rw [h1] at h;cases h;exact number_code h1
 | ok p=>
  obtain⟨m,j⟩:=p
  rw [h1] at h;simp only at h
  split at h
  ·split at h
   ·cases h2:number m s (j+1) with
    | error f=>rw [h2] at h;cases h;exact number_code h2
    | ok p=>
     obtain⟨n,k⟩:=p
     rw [h2] at h;simp only at h
     cases h3:need 125 s k with
     | error f=>rw [h3] at h;cases h;exact need_code h3
     | ok l=>rw [h3] at h;cases h
   ·cases h3:need 125 s (j+1) with
    | error f=>rw [h3] at h;cases h;exact need_code h3
    | ok l=>rw [h3] at h;cases h
  ·cases h3:need 125 s j with
   | error f=>rw [h3] at h;cases h;exact need_code h3
   | ok l=>rw [h3] at h;cases h
theorem count_code {s:ByteArray} {i:Nat} {e a:Int} (h:count s i=.error (e,a)):e≠0:=by
 unfold count at h
 split at h
 ·cases h
 ·split at h
  ·cases h
  ·split at h
   ·cases h
   ·split at h
    ·exact bounds_code h
    ·cases h
theorem byteBut_code {l:Bool} {s:ByteArray} {i:Nat} {e a:Int} (h:byteBut l s i=.error (e,a)):e≠0:=by rw [byteBut_err h];decide
theorem item_code {s:ByteArray} {i:Nat} {e a:Int} (h:item s i=.error (e,a)):e≠0:=by
 unfold item at h
 cases h1:byteBut true s i with
 | error f=>rw [h1] at h;cases h;exact byteBut_code h1
 | ok p=>
  obtain⟨b,j⟩:=p
  rw [h1] at h;simp only at h
  split at h
  ·cases h2:byteBut true s (j+1) with
   | error f=>rw [h2] at h;cases h;exact byteBut_code h2
   | ok p=>
    obtain⟨c,k⟩:=p
    rw [h2] at h;simp only at h
    split at h
    ·cases h;decide
    ·cases h
  ·cases h
theorem items_code {s:ByteArray}:∀ {n:Nat} {set:Nat→Bool} {i:Nat} {e a:Int},items s n set i=.error (e,a)→e≠0
 | 0,_,_,_,_,h=>by cases h;decide
 | n+1,set,i,e,a,h=>by
  unfold items at h
  cases h1:item s i with
  | error f=>rw [h1] at h;cases h;exact item_code h1
  | ok p=>
   obtain⟨b,c,j⟩:=p
   rw [h1] at h;simp only at h
   split at h
   ·cases h
   ·exact items_code h
theorem list_code {s:ByteArray} {i:Nat} {e a:Int} (h:list s i=.error (e,a)):e≠0:=by
 unfold list at h
 simp only at h
 cases h1:items s (s.size+1) (fun _=>false) (if isAt s i 94=true then i+1 else i) with
 | error f=>simp only [h1] at h;cases h;exact items_code h1
 | ok p=>obtain⟨set,k⟩:=p;simp only [h1] at h;cases h
theorem head_code {s:ByteArray} {d:Nat} {x:At} {e a:Int} (h:head s d x=.error (e,a)):e≠0:=by
 unfold head at h
 split at h
 ·cases h;decide
 ·split at h
  ·cases h1:need 58 s (x.i+2) with
   | error f=>rw [h1] at h;cases h;exact need_code h1
   | ok j=>rw [h1] at h;cases h
  ·split at h
   ·cases h;decide
   ·cases h
def CodeF (f:At→Res (Tr×At)):Prop:=∀ x e a,f x=.error (e,a)→e≠0
theorem group_code {sub:At→Res (Tr×At)} (hs:CodeF sub) {s:ByteArray} {d:Nat} {x:At} {e a:Int} (h:group sub s d x=.error (e,a)):e≠0:=by
 unfold group at h
 cases h1:head s d x with
 | error f=>rw [h1] at h;cases h;exact head_code h1
 | ok p=>
  obtain⟨k,y⟩:=p
  rw [h1] at h;simp only at h
  cases h2:sub y with
  | error f=>rw [h2] at h;cases h;exact hs _ _ _ h2
  | ok p=>
   obtain⟨t,z⟩:=p
   rw [h2] at h;simp only at h
   cases h3:need 41 s z.i with
   | error f=>rw [h3] at h;cases h;exact need_code h3
   | ok j=>rw [h3] at h;cases h
theorem atom_code {sub:At→Res (Tr×At)} (hs:CodeF sub) {s:ByteArray} {d:Nat} {x:At} {e a:Int} (h:atom sub s d x=.error (e,a)):e≠0:=by
 unfold atom at h
 split at h
 ·exact group_code hs h
 ·split at h
  ·cases h1:list s (x.i+1) with
   | error f=>rw [h1] at h;cases h;exact list_code h1
   | ok p=>obtain⟨t,j⟩:=p;rw [h1] at h;cases h
  ·split at h
   ·cases h
   ·cases h1:byteBut false s x.i with
    | error f=>rw [h1] at h;cases h;exact byteBut_code h1
    | ok p=>obtain⟨b,j⟩:=p;rw [h1] at h;cases h
theorem part_code {sub:At→Res (Tr×At)} (hs:CodeF sub) {s:ByteArray} {d:Nat} {x:At} {e a:Int} (h:part sub s d x=.error (e,a)):e≠0:=by
 unfold part at h
 cases h1:atom sub s d x with
 | error f=>rw [h1] at h;cases h;exact atom_code hs h1
 | ok p=>
  obtain⟨t,y⟩:=p
  rw [h1] at h;simp only at h
  cases h2:count s y.i with
  | error f=>rw [h2] at h;cases h;exact count_code h2
  | ok p=>obtain⟨m,n,j⟩:=p;rw [h2] at h;cases h
theorem parts_code {sub:At→Res (Tr×At)} (hs:CodeF sub) {s:ByteArray} {d:Nat}:∀ {n:Nat} {l:List Tr} {x:At} {e a:Int},parts sub s d n l x=.error (e,a)→e≠0
 | 0,_,_,_,_,h=>by cases h;decide
 | n+1,l,x,e,a,h=>by
  unfold parts at h
  split at h
  ·cases h
  ·cases h1:part sub s d x with
   | error f=>rw [h1] at h;cases h;exact part_code hs h1
   | ok p=>obtain⟨t,y⟩:=p;rw [h1] at h;exact parts_code hs h
theorem row_code {sub:At→Res (Tr×At)} (hs:CodeF sub) {s:ByteArray} {d:Nat}:CodeF (row sub s d):=by
 intro x e a h
 unfold row at h
 cases h1:parts sub s d (s.size+1) [] x with
 | error f=>rw [h1] at h;cases h;exact parts_code hs h1
 | ok p=>obtain⟨l,y⟩:=p;rw [h1] at h;cases h
theorem rows_code {sub:At→Res (Tr×At)} (hs:CodeF sub) {s:ByteArray} {d:Nat}:∀ {n:Nat} {l:List Tr} {x:At} {e a:Int},rows sub s d n l x=.error (e,a)→e≠0
 | 0,_,_,_,_,h=>by cases h;decide
 | n+1,l,x,e,a,h=>by
  unfold rows at h
  cases h1:row sub s d x with
  | error f=>rw [h1] at h;cases h;exact row_code hs _ _ _ h1
  | ok p=>
   obtain⟨t,y⟩:=p
   rw [h1] at h;simp only at h
   split at h
   ·exact rows_code hs h
   ·cases h
theorem choice_code (s:ByteArray):∀ k,CodeF (choice s k)
 | 0=>by intro x e a h;cases h;decide
 | k+1=>by
  intro x e a h
  unfold choice at h
  cases h1:rows (choice s k) s (8 - k) (s.size+1) [] x with
  | error f=>rw [h1] at h;cases h;exact rows_code (choice_code s k) h1
  | ok p=>obtain⟨l,y⟩:=p;rw [h1] at h;cases h
theorem read_code {s:ByteArray} {e a:Int} (h:read s=.error (e,a)):e≠0:=by
 unfold read at h
 split at h
 ·cases h;decide
 ·cases h1:choice s 9 ⟨0,0⟩ with
  | error f=>rw [h1] at h;cases h;exact choice_code s 9 _ _ _ h1
  | ok p=>
   obtain⟨t,y⟩:=p
   rw [h1] at h;simp only at h
   split at h
   ·cases h;decide
   ·split at h
    ·cases h;decide
    ·cases h
end Sp
end Go.Proofs.YtcpfpnjkfahjcaaGreat
/- What a pattern matches,and where its groups are then: no program is named here. -/
namespace Go.Proofs.YtcpfpnjkfahjcaaGreat
namespace Sp
structure Sem where
 m:Nat→Nat→Bool
 g:Nat→Nat→List (Nat×Nat×Nat)
def greatest (p:Nat→Bool) (i:Nat):Nat→Option Nat
 | 0=>if i=0∧p 0=true then some 0 else none
 | j+1=>if i≤j+1∧p (j+1)=true then some (j+1) else greatest p i j
def cutB (p q:Nat→Nat→Bool) (lo i j:Nat):Bool:=(greatest (fun k=>p i k && q k j) lo j).isSome
def rowM:List Sem→Nat→Nat→Bool
 | [],i,j=>i == j
 | t::r,i,j=>cutB t.m (rowM r) i i j
def rowG:List Sem→Nat→Nat→List (Nat×Nat×Nat)
 | [],_,_=>[]
 | t::r,i,j=>match greatest (fun k=>t.m i k && rowM r k j) i j with
  | none=>[]
  | some k=>t.g i k++rowG r k j
def choiceM (l:List Sem) (i j:Nat):Bool:=l.any fun t=>t.m i j
def choiceG:List Sem→Nat→Nat→List (Nat×Nat×Nat)
 | [],_,_=>[]
 | t::r,i,j=>if t.m i j then t.g i j else choiceG r i j
def turnsM (t:Sem):Nat→Nat→Option Nat→Nat→Nat→Bool
 | 0,_,_,_,_=>false
 | f+1,m+1,n,i,j=>cutB t.m (turnsM t f m (n.map (· - 1))) i i j
 | f+1,0,n,i,j=>i == j || (n != some 0 && cutB t.m (turnsM t f 0 (n.map (· - 1))) (i+1) i j)
def turnsG (t:Sem):Nat→Nat→Option Nat→Nat→Nat→List (Nat×Nat×Nat)
 | 0,_,_,_,_=>[]
 | f+1,m+1,n,i,j=>match greatest (fun k=>t.m i k && turnsM t f m (n.map (· - 1)) k j) i j with
  | none=>[]
  | some k=>t.g i k++turnsG t f m (n.map (· - 1)) k j
 | f+1,0,n,i,j=>if i == j then [] else match greatest (fun k=>t.m i k && turnsM t f 0 (n.map (· - 1)) k j) (i+1) j with
  | none=>[]
  | some k=>t.g i k++turnsG t f 0 (n.map (· - 1)) k j
def one (s:ByteArray) (f:Nat→Bool) (i j:Nat):Bool:=j == i+1 && decide (i < s.size) && f (byteAt s i).toNat
def fits (a:Lab) (c:Nat):Bool:=a.set c != a.not
def bareSem (s:ByteArray) (a:Lab) (l:List Sem):Sem:=
 if a.kind≤2 then ⟨one s (fits a),fun _ _=>[]⟩
 else if a.kind=3 then ⟨choiceM l,fun i j=>(if a.told then [(a.num,i,j)] else [])++choiceG l i j⟩
 else if a.kind=4 then ⟨choiceM l,choiceG l⟩
 else ⟨rowM l,rowG l⟩
def most (n:Int):Option Nat:=if n < 0 then none else some n.toNat
def node (s:ByteArray) (a:Lab) (l:List Sem):Sem:=
 if a.min < 0 then bareSem s a l
 else ⟨fun i j=>turnsM (bareSem s a l) (a.min.toNat+(j - i)+1) a.min.toNat (most a.max) i j,fun i j=>turnsG (bareSem s a l) (a.min.toNat+(j - i)+1) a.min.toNat (most a.max) i j⟩
def sems (s:ByteArray):List Tr→List Sem
 | []=>[]
 | ⟨a,ks⟩::r=>node s a (sems s ks)::sems s r
def sem (s:ByteArray) (t:Tr):Sem:=node s t.lab (sems s t.kids)
theorem sems_cons (s:ByteArray) (t:Tr) (r:List Tr):sems s (t::r)=sem s t::sems s r:=by obtain⟨a,ks⟩:=t;rw [sems];rfl
theorem sems_nil (s:ByteArray):sems s []=[]:=by rw [sems]
theorem greatest_some {p:Nat→Bool} {i:Nat}:∀ {j k:Nat},greatest p i j=some k→i≤k∧k≤j∧p k=true∧∀ m,k < m→m≤j→p m=false
 | 0,k,h=>by
  unfold greatest at h;split at h
  ·rename_i q;cases h;exact⟨by omega,Nat.le_refl _,q.2,by omega⟩
  ·cases h
 | j+1,k,h=>by
  unfold greatest at h;split at h
  ·rename_i q;cases h;exact⟨q.1,Nat.le_refl _,q.2,by omega⟩
  ·rename_i q
   have r:=greatest_some h
   refine⟨r.1,by omega,r.2.2.1,fun m h1 h2=>?_⟩
   rcases Nat.lt_or_eq_of_le h2 with h3|h3
   ·exact r.2.2.2 m h1 (by omega)
   ·subst h3
    cases hp:p (j+1) with
    | false=>rfl
    | true=>exact absurd ⟨by omega,hp⟩ q
theorem greatest_none {p:Nat→Bool} {i:Nat}:∀ {j:Nat},greatest p i j=none→∀ m,i≤m→m≤j→p m=false
 | 0,h,m,h1,h2=>by
  unfold greatest at h;split at h
  ·cases h
  ·rename_i q
   have:m=0:=by omega
   subst this
   cases hp:p 0 with
   | false=>rfl
   | true=>exact absurd ⟨by omega,hp⟩ q
 | j+1,h,m,h1,h2=>by
  unfold greatest at h;split at h
  ·cases h
  ·rename_i q
   rcases Nat.lt_or_eq_of_le h2 with h3|h3
   ·exact greatest_none h m h1 (by omega)
   ·subst h3
    cases hp:p (j+1) with
    | false=>rfl
    | true=>exact absurd ⟨h1,hp⟩ q
theorem cutB_iff {p q:Nat→Nat→Bool} {lo i j:Nat}:cutB p q lo i j=true↔∃ k,lo≤k∧k≤j∧p i k=true∧q k j=true:=by
 unfold cutB
 constructor
 ·intro h
  rw [Option.isSome_iff_exists] at h
  obtain⟨k,hk⟩:=h
  have r:=greatest_some hk
  have:=r.2.2.1
  simp at this
  exact⟨k,r.1,r.2.1,this.1,this.2⟩
 ·rintro ⟨k,h1,h2,h3,h4⟩
  cases hg:greatest (fun k=>p i k && q k j) lo j with
  | some x=>rfl
  | none=>have:=greatest_none hg k h1 h2;simp [h3,h4] at this
end Sp
end Go.Proofs.YtcpfpnjkfahjcaaGreat
