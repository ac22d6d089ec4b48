import Derived.Test.YtcpfpnjkfahjcaaGreatH01
set_option linter.unusedSimpArgs false
set_option linter.unusedVariables false
/- What is still to be matched of a node,when some of it is done: no program is named here. -/
namespace Go.Proofs.YtcpfpnjkfahjcaaGreat
namespace Sp
theorem cutB_congr {p q p' q':Nat→Nat→Bool} {lo i j:Nat} (h:∀ k,lo≤k→k≤j→(p i k && q k j)=(p' i k && q' k j)):cutB p q lo i j=cutB p' q' lo i j:=by
 rw [Bool.eq_iff_iff,cutB_iff,cutB_iff]
 constructor
 ·rintro ⟨k,h1,h2,h3,h4⟩
  have:=h k h1 h2
  rw [h3,h4] at this
  have:=this.symm
  simp at this
  exact⟨k,h1,h2,this.1,this.2⟩
 ·rintro ⟨k,h1,h2,h3,h4⟩
  have:=h k h1 h2
  rw [h3,h4] at this
  simp at this
  exact⟨k,h1,h2,this.1,this.2⟩
theorem turns_fuel (t:Sem):∀ (f g m:Nat) (n:Option Nat) (i j:Nat),m+(j - i) < f→m+(j - i) < g→turnsM t f m n i j=turnsM t g m n i j
 | 0,_,_,_,_,_,h,_=>by omega
 | _+1,0,_,_,_,_,_,h=>by omega
 | f+1,g+1,0,n,i,j,h1,h2=>by
  rw [turnsM,turnsM]
  congr 2
  exact cutB_congr fun k hk hj=>by rw [turns_fuel t f g 0 _ k j (by omega) (by omega)]
 | f+1,g+1,m+1,n,i,j,h1,h2=>by
  rw [turnsM,turnsM]
  exact cutB_congr fun k hk hj=>by rw [turns_fuel t f g m _ k j (by omega) (by omega)]
def turnsD (t:Sem) (m:Nat) (n:Option Nat) (d i j:Nat):Bool:=turnsM t (m - d+(j - i)+1) (m - d) (n.map (· - d)) i j
theorem turnsD_less (t:Sem) (m:Nat) (n:Option Nat) (d i j:Nat) (h:d < m):turnsD t m n d i j=cutB t.m (turnsD t m n (d+1)) i i j:=by
 obtain⟨e,he⟩:∃ e,m - d=e+1:=⟨m - d - 1,by omega⟩
 unfold turnsD
 rw [he,turnsM]
 refine cutB_congr fun k hk hj=>?_
 have e2:m - (d+1)=e:=by omega
 have e3:((n.map (· - d)).map (· - 1))=n.map (· - (d+1)):=by cases n<;>simp;omega
 rw [e3,e2,turns_fuel t (e+1+(j - i)) (e+(j - k)+1) e _ k j (by omega) (by omega)]
theorem turnsD_more (t:Sem) (m:Nat) (n:Option Nat) (d i j:Nat) (h:m≤d):turnsD t m n d i j=(i == j || ((n.map (· - d)) != some 0 && cutB t.m (turnsD t m n (d+1)) (i+1) i j)):=by
 have he:m - d=0:=by omega
 unfold turnsD
 rw [he,turnsM]
 congr 2
 refine cutB_congr fun k hk hj=>?_
 have e2:m - (d+1)=0:=by omega
 have e3:((n.map (· - d)).map (· - 1))=n.map (· - (d+1)):=by cases n<;>simp;omega
 rw [e3,e2,turns_fuel t (0+(j - i)) (0+(j - k)+1) 0 _ k j (by omega) (by omega)]
theorem turnsD_endless (t:Sem) (m d i j:Nat) (h:m≤d):turnsD t m none d i j=turnsD t m none m i j:=by
 unfold turnsD
 rw [show m - d=m - m by omega];rfl
def spotM (s:ByteArray) (t:Tr) (d i j:Nat):Bool:=
 if 0≤t.lab.min then turnsD (bareSem s t.lab (sems s t.kids)) t.lab.min.toNat (most t.lab.max) d i j
 else if t.lab.kind=5 then rowM ((sems s t.kids).drop d) i j
 else (sem s t).m i j
theorem spotM_zero (s:ByteArray) (t:Tr) (i j:Nat):spotM s t 0 i j=(sem s t).m i j:=by
 unfold spotM sem node
 split
 ·rename_i h
  rw [if_neg (by omega)]
  unfold turnsD
  simp
 ·rename_i h
  split
  ·rename_i hk
   rw [if_pos (by omega)]
   unfold bareSem
   simp [hk]
  ·rfl
theorem cutB_le {p q:Nat→Nat→Bool} {lo i j:Nat} (h:cutB p q lo i j=true) (hl:i≤lo):i≤j:=by
 obtain⟨k,h1,h2,_⟩:=cutB_iff.mp h;omega
theorem rowM_le:∀ (l:List Sem) {i j:Nat},rowM l i j=true→i≤j
 | [],i,j,h=>by simp [rowM] at h;omega
 | t::r,i,j,h=>by rw [rowM] at h;exact cutB_le h (Nat.le_refl _)
theorem turnsM_le (t:Sem):∀ (f m:Nat) (n:Option Nat) {i j:Nat},turnsM t f m n i j=true→i≤j
 | 0,_,_,_,_,h=>by simp [turnsM] at h
 | f+1,0,n,i,j,h=>by
  rw [turnsM] at h
  simp at h
  rcases h with h|h
  ·omega
  ·exact cutB_le h.2 (by omega)
 | f+1,m+1,n,i,j,h=>by rw [turnsM] at h;exact cutB_le h (Nat.le_refl _)
theorem bare_le (s:ByteArray) (a:Lab) (l:List Sem) (hl:∀ x∈l,∀ i j,x.m i j=true→i≤j) (i j:Nat) (h:(bareSem s a l).m i j=true):i≤j:=by
 have hc:choiceM l i j=true→i≤j:=fun q=>by
  unfold choiceM at q
  rw [List.any_eq_true] at q
  obtain⟨x,h1,h2⟩:=q
  exact hl x h1 i j h2
 unfold bareSem at h
 split at h
 ·simp [one] at h;omega
 ·split at h
  ·exact hc h
  ·split at h
   ·exact hc h
   ·exact rowM_le l h
theorem node_le (s:ByteArray) (a:Lab) (l:List Sem) (hl:∀ x∈l,∀ i j,x.m i j=true→i≤j) (i j:Nat) (h:(node s a l).m i j=true):i≤j:=by
 unfold node at h
 split at h
 ·exact bare_le s a l hl i j h
 ·exact turnsM_le _ _ _ _ h
theorem sems_le (s:ByteArray):∀ (l:List Tr),∀ x∈sems s l,∀ i j,x.m i j=true→i≤j
 | [],x,hx=>by rw [sems_nil] at hx;cases hx
 | ⟨a,ks⟩::r,x,hx=>by
  rw [sems] at hx
  intro i j h
  rcases List.mem_cons.mp hx with q|q
  ·rw [q] at h;exact node_le s a (sems s ks) (sems_le s ks) i j h
  ·exact sems_le s r x q i j h
theorem sem_le (s:ByteArray) (t:Tr) (i j:Nat) (h:(sem s t).m i j=true):i≤j:=node_le s _ _ (sems_le s t.kids) i j h
theorem spotM_le (s:ByteArray) (t:Tr) (d i j:Nat) (h:spotM s t d i j=true):i≤j:=by
 unfold spotM at h
 split at h
 ·exact turnsM_le _ _ _ _ h
 ·split at h
  ·exact rowM_le _ h
  ·exact sem_le s t i j h
def cutTo (p q:Nat→Nat→Bool) (lo i:Nat):Nat→Nat→Bool
 | 0,_=>false
 | c+1,j=>cutTo p q lo i c j || (decide (lo≤c) && p i c && q c j)
theorem cutTo_iff (p q:Nat→Nat→Bool) (lo i j:Nat):∀ c,cutTo p q lo i c j=true↔∃ k,lo≤k∧k < c∧p i k=true∧q k j=true
 | 0=>by simp [cutTo]
 | c+1=>by
  rw [cutTo,Bool.or_eq_true,cutTo_iff p q lo i j c]
  simp only [Bool.and_eq_true,decide_eq_true_eq]
  constructor
  ·rintro (⟨k,h1,h2,h3,h4⟩|⟨⟨h1,h3⟩,h4⟩)
   ·exact⟨k,h1,by omega,h3,h4⟩
   ·exact⟨c,h1,by omega,h3,h4⟩
  ·rintro ⟨k,h1,h2,h3,h4⟩
   rcases Nat.lt_or_eq_of_le (Nat.le_of_lt_succ h2) with q'|q'
   ·exact Or.inl ⟨k,h1,q',h3,h4⟩
   ·subst q';exact Or.inr ⟨⟨h1,h3⟩,h4⟩
theorem cutTo_none (p q:Nat→Nat→Bool) (lo i j c:Nat) (h:c≤lo):cutTo p q lo i c j=false:=by
 cases hc:cutTo p q lo i c j with
 | false=>rfl
 | true=>obtain⟨k,h1,h2,_⟩:=(cutTo_iff p q lo i j c).mp hc;omega
theorem cutTo_yes (p q:Nat→Nat→Bool) (lo i j c:Nat) (h:lo≤c) (hp:p i c=true):cutTo p q lo i (c+1) j=(cutTo p q lo i c j || q c j):=by
 rw [cutTo,hp];simp [h]
theorem cutTo_no (p q:Nat→Nat→Bool) (lo i j c:Nat) (hp:p i c=false):cutTo p q lo i (c+1) j=cutTo p q lo i c j:=by
 rw [cutTo,hp];simp
theorem cutTo_all (p q:Nat→Nat→Bool) (lo i j c:Nat) (hq:∀ k,q k j=true→k≤j) (hc:j < c):cutTo p q lo i c j=cutB p q lo i j:=by
 rw [Bool.eq_iff_iff,cutB_iff,cutTo_iff]
 constructor
 ·rintro ⟨k,h1,h2,h3,h4⟩;exact⟨k,h1,hq k h4,h3,h4⟩
 ·rintro ⟨k,h1,h2,h3,h4⟩;exact⟨k,h1,by omega,h3,h4⟩
structure CanL (a:Lab):Prop where
 kind:a.kind≤5
 byte:a.kind≠0→a.byte=0
 num:a.kind≠3→a.num=0
 told:a.told=decide (a.num≠0)
 s0:a.kind=0→a.byte < 256∧a.set=fun c=>c == a.byte
 s1:a.kind=1→a.set=fun c=>c == 10
 s2:a.kind=2→∀ c,a.set c=true→c < 256
 s3:2 < a.kind→a.set=fun _=>false
 not:a.kind≠2→a.not=decide (a.kind=1)
 cnt:a.min < 0→a.min=-1∧a.max=0
 max:-1≤a.max∧a.max≤20
 min:a.min≤20
 mm:0≤a.min→a.max=-1∨a.min≤a.max
def Can:List Tr→Prop
 | []=>True
 | ⟨a,ks⟩::r=>(CanL a∧(a.kind≤2→ks=[])∧(a.kind=3→ks.length=1)∧(a.kind=4→ks≠[]))∧Can ks∧Can r
theorem Can_nil:Can []:=by rw [Can];trivial
theorem Can_cons (t:Tr) (r:List Tr):Can (t::r)↔(CanL t.lab∧(t.lab.kind≤2→t.kids=[])∧(t.lab.kind=3→t.kids.length=1)∧(t.lab.kind=4→t.kids≠[]))∧Can t.kids∧Can r:=by
 obtain⟨a,ks⟩:=t;rw [Can]
end Sp
end Go.Proofs.YtcpfpnjkfahjcaaGreat
/- The trees that reading makes have the labels that reading makes: no program is named here. -/
namespace Go.Proofs.YtcpfpnjkfahjcaaGreat
namespace Sp
theorem Can_append:∀ (l m:List Tr),Can l→Can m→Can (l++m)
 | [],_,_,h=>h
 | t::r,m,h,k=>by
  rw [Can_cons] at h
  show Can (t::(r++m))
  rw [Can_cons];exact⟨h.1,h.2.1,Can_append r m h.2.2 k⟩
theorem Can_one {a:Lab} {ks:List Tr} (h1:CanL a∧(a.kind≤2→ks=[])∧(a.kind=3→ks.length=1)∧(a.kind=4→ks≠[])) (h2:Can ks):Can [⟨a,ks⟩]:=by
 rw [Can_cons];exact⟨h1,h2,Can_nil⟩
theorem item_up {s:ByteArray} {i j:Nat} {a b:Int} (h:item s i=.ok (a,b,j)):b≤255:=by
 unfold item at h
 cases h1:byteBut true s i with
 | error f=>simp [h1] at h
 | ok v=>
  obtain⟨x,k⟩:=v
  simp only [h1] at h
  split at h
  ·cases h2:byteBut true s (k+1) with
   | error f=>simp [h2] at h
   | ok v=>
    obtain⟨y,l⟩:=v
    simp only [h2] at h
    split at h
    ·cases h
    ·cases h;exact (byteBut_ok h2).2.1
  ·cases h;exact (byteBut_ok h1).2.1
theorem items_up {s:ByteArray}:∀ {n:Nat} {set:Nat→Bool} {i:Nat} {set':Nat→Bool} {j:Nat},items s n set i=.ok (set',j)→(∀ c,set c=true→c < 256)→∀ c,set' c=true→c < 256
 | 0,_,_,_,_,h,_=>by cases h
 | n+1,set,i,set',j,h,hs=>by
  unfold items at h
  cases h1:item s i with
  | error f=>simp [h1] at h
  | ok v=>
   obtain⟨a,b,k⟩:=v
   simp only [h1] at h
   have hb:=item_up h1
   have hn:∀ c,add set a b c=true→c < 256:=fun c hc=>by
    unfold add at hc
    rw [Bool.or_eq_true] at hc
    rcases hc with hc|hc
    ·exact hs c hc
    ·rw [Bool.and_eq_true,decide_eq_true_eq,decide_eq_true_eq] at hc;omega
   split at h
   ·cases h;exact hn
   ·exact items_up h hn
theorem number_least {m:Int} {s:ByteArray} {i j:Nat} {v:Int} (h:number m s i=.ok (v,j)):m≤v:=by
 unfold number at h
 split at h
 ·split at h
  ·cases h
  ·rename_i q;injection h with h;rw [h] at q;simp only at q;omega
 ·cases h
theorem bounds_mm {s:ByteArray} {i j:Nat} {m n:Int} (h:bounds s i=.ok (m,n,j)):0≤m∧(n=-1∨m≤n):=by
 unfold bounds at h
 cases h1:number 0 s i with
 | error f=>simp [h1] at h
 | ok v=>
  obtain⟨x,k⟩:=v
  have h0:=number_least h1
  simp only [h1] at h
  split at h
  ·split at h
   ·cases h2:number x s (k+1) with
    | error f=>simp [h2] at h
    | ok v=>
     obtain⟨y,l⟩:=v
     have h5:=number_least h2
     simp only [h2] at h
     cases h3:need 125 s l with
     | error f=>simp [h3] at h
     | ok u=>simp only [h3] at h;cases h;exact⟨h0,Or.inr h5⟩
   ·cases h3:need 125 s (k+1) with
    | error f=>simp [h3] at h
    | ok u=>simp only [h3] at h;cases h;exact⟨h0,Or.inl rfl⟩
  ·cases h3:need 125 s k with
   | error f=>simp [h3] at h
   | ok u=>simp only [h3] at h;cases h;exact⟨h0,Or.inr (Int.le_refl _)⟩
theorem count_mm {s:ByteArray} {i j:Nat} {m n:Int} (h:count s i=.ok (m,n,j)):(m < 0→m=-1∧n=0)∧(0≤m→n=-1∨m≤n):=by
 unfold count at h
 split at h
 ·cases h;exact⟨by omega,by omega⟩
 ·split at h
  ·cases h;exact⟨by omega,by omega⟩
  ·split at h
   ·cases h;exact⟨by omega,by omega⟩
   ·split at h
    ·have:=bounds_mm h;exact⟨by omega,fun _=>this.2⟩
    ·cases h;exact⟨by omega,by omega⟩
def CanF (f:At→Res (Tr×At)):Prop:=∀ x t y,f x=.ok (t,y)→Can [t]
theorem list_can {s:ByteArray} {i j:Nat} {t:Tr} (h:list s i=.ok (t,j)):Can [t]:=by
 unfold list at h
 simp only [] at h
 cases h1:items s (s.size+1) (fun _=>false) (if isAt s i 94=true then i+1 else i) with
 | error f=>simp [h1] at h
 | ok v=>
  obtain⟨set,k⟩:=v
  simp only [h1] at h
  cases h
  refine Can_one ⟨⟨?_,?_,?_,?_,?_,?_,?_,?_,?_,?_,?_,?_,?_⟩,?_,?_,?_⟩ Can_nil<;>simp [blank]
  exact items_up h1 (fun _ h=>by simp at h)
theorem atom_can {s:ByteArray} {d:Nat} {sub:At→Res (Tr×At)} (hs:CanF sub) {x:At} {t:Tr} {y:At} (h:atom sub s d x=.ok (t,y)):Can [t]:=by
 unfold atom at h
 by_cases c1:isAt s x.i 40=true
 ·rw [if_pos c1] at h
  unfold group at h
  cases hh:head s d x with
  | error f=>rw [hh] at h;cases h
  | ok v=>
   obtain⟨k,z⟩:=v
   rw [hh] at h
   cases hb:sub z with
   | error f=>simp [hb] at h
   | ok v=>
    obtain⟨t',u⟩:=v
    have b:=hs z t' u hb
    cases hn:need 41 s u.i with
    | error f=>simp [hb,hn] at h
    | ok j=>
     simp [hb,hn] at h;obtain⟨rfl,rfl⟩:=h
     refine Can_one ⟨⟨?_,?_,?_,?_,?_,?_,?_,?_,?_,?_,?_,?_,?_⟩,?_,?_,?_⟩ b<;>simp [blank]
 rw [if_neg c1] at h
 by_cases c2:isAt s x.i 91=true
 ·rw [if_pos c2] at h
  cases h1:list s (x.i+1) with
  | error f=>simp [h1] at h
  | ok v=>obtain⟨t',j⟩:=v;simp [h1] at h;obtain⟨rfl,rfl⟩:=h;exact list_can h1
 rw [if_neg c2] at h
 by_cases c3:isAt s x.i 46=true
 ·rw [if_pos c3] at h;cases h
  refine Can_one ⟨⟨?_,?_,?_,?_,?_,?_,?_,?_,?_,?_,?_,?_,?_⟩,?_,?_,?_⟩ Can_nil<;>simp [blank]
 rw [if_neg c3] at h
 cases h1:byteBut false s x.i with
 | error f=>simp [h1] at h
 | ok v=>
  obtain⟨b,j⟩:=v
  have hb:=byteBut_ok h1
  simp [h1] at h;obtain⟨rfl,rfl⟩:=h
  refine Can_one ⟨⟨?_,?_,?_,?_,?_,?_,?_,?_,?_,?_,?_,?_,?_⟩,?_,?_,?_⟩ Can_nil<;>simp [blank]
  omega
theorem part_can {s:ByteArray} {d:Nat} {sub:At→Res (Tr×At)} (hs:CanF sub) {x:At} {t:Tr} {y:At} (h:part sub s d x=.ok (t,y)):Can [t]:=by
 unfold part at h
 cases h1:atom sub s d x with
 | error f=>simp [h1] at h
 | ok v=>
  obtain⟨t',z⟩:=v
  have g:=atom_can hs h1
  rw [Can_cons] at g
  cases h2:count s z.i with
  | error f=>simp [h1,h2] at h
  | ok v=>
   obtain⟨m,n,j⟩:=v
   have hb:=count_bd h2
   have hm:=count_mm h2
   simp [h1,h2] at h;obtain⟨rfl,rfl⟩:=h
   have a:=g.1.1
   exact Can_one ⟨⟨a.kind,a.byte,a.num,a.told,a.s0,a.s1,a.s2,a.s3,a.not,hm.1,⟨hb.2.2.1,hb.2.2.2⟩,hb.2.1,hm.2⟩,g.1.2⟩ g.2.1
theorem parts_can {s:ByteArray} {d:Nat} {sub:At→Res (Tr×At)} (hs:CanF sub):∀ {n:Nat} {l:List Tr} {x:At} {l':List Tr} {y:At},parts sub s d n l x=.ok (l',y)→Can l→Can l'
 | 0,_,_,_,_,h,_=>by cases h
 | n+1,l,x,l',y,h,hl=>by
  unfold parts at h
  split at h
  ·cases h;exact hl
  ·cases h1:part sub s d x with
   | error f=>simp [h1] at h
   | ok v=>
    obtain⟨t',z⟩:=v
    simp only [h1] at h
    exact parts_can hs h (Can_append _ _ hl (part_can hs h1))
theorem row_can {s:ByteArray} {d:Nat} {sub:At→Res (Tr×At)} (hs:CanF sub):CanF (row sub s d):=by
 intro x t y h
 unfold row at h
 cases h1:parts sub s d (s.size+1) [] x with
 | error f=>simp [h1] at h
 | ok v=>
  obtain⟨l,z⟩:=v
  simp [h1] at h;obtain⟨rfl,rfl⟩:=h
  refine Can_one ⟨⟨?_,?_,?_,?_,?_,?_,?_,?_,?_,?_,?_,?_,?_⟩,?_,?_,?_⟩ (parts_can hs h1 Can_nil)<;>simp [blank]
theorem rows_can {s:ByteArray} {d:Nat} {sub:At→Res (Tr×At)} (hs:CanF sub):∀ {n:Nat} {l:List Tr} {x:At} {l':List Tr} {y:At},rows sub s d n l x=.ok (l',y)→Can l→Can l'∧l'≠[]
 | 0,_,_,_,_,h,_=>by cases h
 | n+1,l,x,l',y,h,hl=>by
  unfold rows at h
  cases h1:row sub s d x with
  | error f=>simp [h1] at h
  | ok v=>
   obtain⟨t',z⟩:=v
   have m:=row_can hs x t' z h1
   simp only [h1] at h
   split at h
   ·exact rows_can hs h (Can_append _ _ hl m)
   ·cases h;exact⟨Can_append _ _ hl m,by simp⟩
theorem choice_can (s:ByteArray):∀ k,CanF (choice s k)
 | 0=>by intro x t y h;cases h
 | k+1=>by
  intro x t y h
  unfold choice at h
  cases h1:rows (choice s k) s (8 - k) (s.size+1) [] x with
  | error f=>simp [h1] at h
  | ok v=>
   obtain⟨l,z⟩:=v
   simp [h1] at h;obtain⟨rfl,rfl⟩:=h
   have q:=rows_can (choice_can s k) h1 Can_nil
   refine Can_one ⟨⟨?_,?_,?_,?_,?_,?_,?_,?_,?_,?_,?_,?_,?_⟩,?_,?_,?_⟩ q.1<;>simp [blank]
   exact q.2
theorem read_can {s:ByteArray} {t:Tr} {n:Int} (h:read s=.ok (t,n)):Can [t]:=by
 unfold read at h
 split at h
 ·cases h
 ·cases h1:choice s 9 ⟨0,0⟩ with
  | error f=>simp [h1] at h
  | ok v=>
   obtain⟨t',y⟩:=v
   simp only [h1] at h
   split at h
   ·cases h
   ·split at h
    ·cases h
    ·cases h;exact choice_can s 9 _ _ _ h1
end Sp
end Go.Proofs.YtcpfpnjkfahjcaaGreat
/- The groups of what is still to be matched of a node,when some of it is done: no program is named here. -/
namespace Go.Proofs.YtcpfpnjkfahjcaaGreat
namespace Sp
theorem greatest_congr {p q:Nat→Bool} {i:Nat}:∀ {j:Nat},(∀ k,i≤k→k≤j→p k=q k)→greatest p i j=greatest q i j
 | 0,h=>by
  unfold greatest
  by_cases hi:i=0
  ·subst hi;rw [h 0 (by omega) (by omega)]
  ·rw [if_neg (fun x=>hi x.1),if_neg (fun x=>hi x.1)]
 | j+1,h=>by
  unfold greatest
  rw [greatest_congr (p:=p) (q:=q) (j:=j) (fun k h1 h2=>h k h1 (by omega))]
  by_cases hi:i≤j+1
  ·rw [h (j+1) hi (by omega)]
  ·rw [if_neg (fun x=>hi x.1),if_neg (fun x=>hi x.1)]
theorem greatest_is {p:Nat→Bool} {i j k:Nat} (h1:i≤k) (h2:k≤j) (h3:p k=true) (h4:∀ m,k < m→m≤j→p m=false):greatest p i j=some k:=by
 cases hg:greatest p i j with
 | none=>have:=greatest_none hg k h1 h2;rw [h3] at this;cases this
 | some m=>
  have r:=greatest_some hg
  rcases Nat.lt_trichotomy k m with q|q|q
  ·have:=h4 m q r.2.1;rw [r.2.2.1] at this;cases this
  ·rw [q]
  ·have:=r.2.2.2 k q h2;rw [h3] at this;cases this
theorem greatest_lower {p:Nat→Bool} {i i' j k:Nat} (h:greatest p i j=some k) (hi:i'≤i):greatest p i' j=some k:=by
 have r:=greatest_some h
 exact greatest_is (by omega) r.2.1 r.2.2.1 r.2.2.2
theorem cutB_great {p q:Nat→Nat→Bool} {lo i j:Nat} (h:cutB p q lo i j=true):∃ k,greatest (fun k=>p i k && q k j) lo j=some k:=by
 unfold cutB at h
 exact Option.isSome_iff_exists.mp h
theorem turnsG_fuel (t:Sem):∀ (f g m:Nat) (n:Option Nat) (i j:Nat),m+(j - i) < f→m+(j - i) < g→turnsG t f m n i j=turnsG t g m n i j
 | 0,_,_,_,_,_,h,_=>by omega
 | _+1,0,_,_,_,_,_,h=>by omega
 | f+1,g+1,0,n,i,j,h1,h2=>by
  rw [turnsG,turnsG]
  have e:greatest (fun k=>t.m i k && turnsM t f 0 (n.map (· - 1)) k j) (i+1) j=greatest (fun k=>t.m i k && turnsM t g 0 (n.map (· - 1)) k j) (i+1) j:=
   greatest_congr fun k hk hj=>by rw [turns_fuel t f g 0 _ k j (by omega) (by omega)]
  rw [e]
  cases hg:greatest (fun k=>t.m i k && turnsM t g 0 (n.map (· - 1)) k j) (i+1) j with
  | none=>rfl
  | some k=>
   have r:=greatest_some hg
   simp only
   rw [turnsG_fuel t f g 0 _ k j (by omega) (by omega)]
 | f+1,g+1,m+1,n,i,j,h1,h2=>by
  rw [turnsG,turnsG]
  have e:greatest (fun k=>t.m i k && turnsM t f m (n.map (· - 1)) k j) i j=greatest (fun k=>t.m i k && turnsM t g m (n.map (· - 1)) k j) i j:=
   greatest_congr fun k hk hj=>by rw [turns_fuel t f g m _ k j (by omega) (by omega)]
  rw [e]
  cases hg:greatest (fun k=>t.m i k && turnsM t g m (n.map (· - 1)) k j) i j with
  | none=>rfl
  | some k=>
   have r:=greatest_some hg
   simp only
   rw [turnsG_fuel t f g m _ k j (by omega) (by omega)]
def turnsGD (t:Sem) (m:Nat) (n:Option Nat) (d i j:Nat):List (Nat×Nat×Nat):=turnsG t (m - d+(j - i)+1) (m - d) (n.map (· - d)) i j
theorem turnsGD_less (t:Sem) (m:Nat) (n:Option Nat) (d i j k:Nat) (h:d < m) (hk:greatest (fun k=>t.m i k && turnsD t m n (d+1) k j) i j=some k):turnsGD t m n d i j=t.g i k++turnsGD t m n (d+1) k j:=by
 obtain⟨e,he⟩:∃ e,m - d=e+1:=⟨m - d - 1,by omega⟩
 have e2:m - (d+1)=e:=by omega
 have e3:((n.map (· - d)).map (· - 1))=n.map (· - (d+1)):=by cases n<;>simp;omega
 have r:=greatest_some hk
 unfold turnsGD
 rw [he,turnsG,e3]
 have e4:greatest (fun k=>t.m i k && turnsM t (e+1+(j - i)) e (n.map (· - (d+1))) k j) i j=some k:=by
  rw [← hk]
  refine greatest_congr fun x hx hj=>?_
  unfold turnsD
  rw [e2,turns_fuel t (e+1+(j - i)) (e+(j - x)+1) e _ x j (by omega) (by omega)]
 rw [e4]
 simp only
 rw [e2,turnsG_fuel t (e+1+(j - i)) (e+(j - k)+1) e _ k j (by omega) (by omega)]
theorem turnsGD_more (t:Sem) (m:Nat) (n:Option Nat) (d i j k:Nat) (h:m≤d) (hij:i < j) (hk:greatest (fun k=>t.m i k && turnsD t m n (d+1) k j) (i+1) j=some k):turnsGD t m n d i j=t.g i k++turnsGD t m n (d+1) k j:=by
 have he:m - d=0:=by omega
 have e2:m - (d+1)=0:=by omega
 have e3:((n.map (· - d)).map (· - 1))=n.map (· - (d+1)):=by cases n<;>simp;omega
 have r:=greatest_some hk
 unfold turnsGD
 rw [he,turnsG,e3]
 have e4:greatest (fun k=>t.m i k && turnsM t (0+(j - i)) 0 (n.map (· - (d+1))) k j) (i+1) j=some k:=by
  rw [← hk]
  refine greatest_congr fun x hx hj=>?_
  unfold turnsD
  rw [e2,turns_fuel t (0+(j - i)) (0+(j - x)+1) 0 _ x j (by omega) (by omega)]
 have e5:(i == j)=false:=by simp;omega
 rw [e4,e5]
 simp only
 rw [e2,turnsG_fuel t (0+(j - i)) (0+(j - k)+1) 0 _ k j (by omega) (by omega)]
 simp
theorem turnsGD_done (t:Sem) (m:Nat) (n:Option Nat) (d i:Nat) (h:m≤d):turnsGD t m n d i i=[]:=by
 unfold turnsGD
 rw [show m - d=0 by omega,turnsG];simp
theorem turnsGD_endless (t:Sem) (m d i j:Nat) (h:m≤d):turnsGD t m none d i j=turnsGD t m none m i j:=by
 unfold turnsGD
 rw [show m - d=m - m by omega];rfl
def spotG (s:ByteArray) (t:Tr) (d i j:Nat):List (Nat×Nat×Nat):=
 if 0≤t.lab.min then turnsGD (bareSem s t.lab (sems s t.kids)) t.lab.min.toNat (most t.lab.max) d i j
 else if t.lab.kind=5 then rowG ((sems s t.kids).drop d) i j
 else (sem s t).g i j
theorem spotG_zero (s:ByteArray) (t:Tr) (i j:Nat):spotG s t 0 i j=(sem s t).g i j:=by
 unfold spotG sem node
 split
 ·rename_i h
  rw [if_neg (by omega)]
  unfold turnsGD
  simp
 ·rename_i h
  split
  ·rename_i hk
   rw [if_pos (by omega)]
   unfold bareSem
   simp [hk]
  ·rfl
theorem sems_get (s:ByteArray):∀ (l:List Tr) (d:Nat) (u:Tr),l[d]?=some u→(sems s l).drop d=sem s u::(sems s l).drop (d+1)
 | [],_,_,h=>by simp at h
 | x::r,0,u,h=>by simp at h;subst h;rw [sems_cons];rfl
 | x::r,d+1,u,h=>by
  rw [sems_cons]
  simp only [List.drop_succ_cons]
  exact sems_get s r d u (by simpa using h)
theorem sems_len (s:ByteArray):∀ (l:List Tr),(sems s l).length=l.length
 | []=>by rw [sems_nil];rfl
 | x::r=>by rw [sems_cons];simp [sems_len s r]
theorem row_next {s:ByteArray} {t:Tr} {d i j:Nat} {u:Tr} (hm:t.lab.min < 0) (hk:t.lab.kind=5) (hu:t.kids[d]?=some u) (h:spotM s t d i j=true) :
  ∃ k,greatest (fun k=>(sem s u).m i k && spotM s t (d+1) k j) i j=some k∧spotG s t d i j=(sem s u).g i k++spotG s t (d+1) k j:=by
 have e1:∀ d' i' j',spotM s t d' i' j'=rowM ((sems s t.kids).drop d') i' j':=fun d' i' j'=>by unfold spotM;rw [if_neg (by omega),if_pos hk]
 have e2:∀ d' i' j',spotG s t d' i' j'=rowG ((sems s t.kids).drop d') i' j':=fun d' i' j'=>by unfold spotG;rw [if_neg (by omega),if_pos hk]
 rw [e1,sems_get s _ d u hu,rowM] at h
 obtain⟨k,hk'⟩:=cutB_great h
 have e3:greatest (fun k=>(sem s u).m i k && spotM s t (d+1) k j) i j=some k:=by
  rw [← hk'];exact greatest_congr fun x _ _=>by rw [e1]
 refine⟨k,e3,?_⟩
 rw [e2,e2,sems_get s _ d u hu,rowG,hk']
theorem row_over {s:ByteArray} {t:Tr} {d i j:Nat} (hm:t.lab.min < 0) (hk:t.lab.kind=5) (hd:t.kids.length≤d):spotG s t d i j=[]:=by
 unfold spotG;rw [if_neg (by omega),if_pos hk,List.drop_eq_nil_of_le (by rw [sems_len];exact hd),rowG]
theorem turn_next {s:ByteArray} {t:Tr} {d i j:Nat} (hm:0≤t.lab.min) (h:spotM s t d i j=true) (hmore:(d:Int) < t.lab.min∨i < j) :
  ∃ k,greatest (fun k=>(bareSem s t.lab (sems s t.kids)).m i k && spotM s t (d+1) k j) i j=some k∧spotG s t d i j=(bareSem s t.lab (sems s t.kids)).g i k++spotG s t (d+1) k j∧((d:Int) < t.lab.min∨i < k):=by
 have e1:∀ d' i' j',spotM s t d' i' j'=turnsD (bareSem s t.lab (sems s t.kids)) t.lab.min.toNat (most t.lab.max) d' i' j':=fun d' i' j'=>by unfold spotM;rw [if_pos hm]
 have e2:∀ d' i' j',spotG s t d' i' j'=turnsGD (bareSem s t.lab (sems s t.kids)) t.lab.min.toNat (most t.lab.max) d' i' j':=fun d' i' j'=>by unfold spotG;rw [if_pos hm]
 have e3:(fun k=>(bareSem s t.lab (sems s t.kids)).m i k && spotM s t (d+1) k j)=fun k=>(bareSem s t.lab (sems s t.kids)).m i k && turnsD (bareSem s t.lab (sems s t.kids)) t.lab.min.toNat (most t.lab.max) (d+1) k j:=by
  funext k;rw [e1]
 rw [e1] at h
 rw [e3,e2]
 by_cases hd:(d:Int) < t.lab.min
 ·rw [turnsD_less _ _ _ _ _ _ (by omega)] at h
  obtain⟨k,hk⟩:=cutB_great h
  exact⟨k,hk,by rw [e2];exact turnsGD_less _ _ _ _ _ _ k (by omega) hk,Or.inl hd⟩
 ·have hij:i < j:=by omega
  rw [turnsD_more _ _ _ _ _ _ (by omega)] at h
  have:(i == j)=false:=by simp;omega
  rw [this] at h
  simp at h
  obtain⟨k,hk⟩:=cutB_great h.2
  have r:=greatest_some hk
  exact⟨k,greatest_lower hk (by omega),by rw [e2];exact turnsGD_more _ _ _ _ _ _ k (by omega) hij hk,Or.inr (by omega)⟩
theorem turn_over {s:ByteArray} {t:Tr} {d i:Nat} (hm:0≤t.lab.min) (hd:t.lab.min≤(d:Int)):spotG s t d i i=[]:=by
 unfold spotG;rw [if_pos hm];exact turnsGD_done _ _ _ _ _ (by omega)
theorem turn_endless {s:ByteArray} {t:Tr} {d:Nat} (hm:0≤t.lab.min) (hx:t.lab.max < 0) (hd:t.lab.min≤(d:Int)) (i j:Nat):spotM s t d i j=spotM s t t.lab.min.toNat i j∧spotG s t d i j=spotG s t t.lab.min.toNat i j:=by
 unfold spotM spotG
 rw [if_pos hm,if_pos hm,if_pos hm,if_pos hm]
 have:most t.lab.max=none:=by unfold most;rw [if_pos hx]
 rw [this]
 exact⟨turnsD_endless _ _ _ _ _ (by omega),turnsGD_endless _ _ _ _ _ (by omega)⟩
end Sp
end Go.Proofs.YtcpfpnjkfahjcaaGreat
/- A part of a text is matched as it is alone,its groups moved: no program is named here. -/
namespace Go.Proofs.YtcpfpnjkfahjcaaGreat
namespace Sp
/-! The groups lie within what is matched. -/
def In (i j:Nat) (l:List (Nat×Nat×Nat)):Prop:=∀ x∈l,i≤x.2.1∧x.2.1≤x.2.2∧x.2.2≤j
def SemIn (x:Sem):Prop:=∀ i j,x.m i j=true→In i j (x.g i j)
theorem In.nil (i j:Nat):In i j []:=fun _ h=>by cases h
theorem In.append {i j:Nat} {l m:List (Nat×Nat×Nat)} (h:In i j l) (k:In i j m):In i j (l++m):=fun x hx=>by
 rcases List.mem_append.mp hx with q|q
 ·exact h x q
 ·exact k x q
theorem In.wide {i j i' j':Nat} {l:List (Nat×Nat×Nat)} (h:In i j l) (hi:i'≤i) (hj:j≤j'):In i' j' l:=fun x hx=>by have:=h x hx;omega
theorem rowG_in:∀ (l:List Sem),(∀ x∈l,SemIn x)→(∀ x∈l,∀ i j,x.m i j=true→i≤j)→∀ i j,In i j (rowG l i j)
 | [],_,_,i,j=>In.nil _ _
 | x::l,h,hl,i,j=>by
  rw [rowG]
  cases hg:greatest (fun k=>x.m i k && rowM l k j) i j with
  | none=>exact In.nil _ _
  | some k=>
   have r:=greatest_some hg
   have hm:=r.2.2.1
   rw [Bool.and_eq_true] at hm
   exact ((h x (List.mem_cons_self ..) i k hm.1).wide (Nat.le_refl _) r.2.1).append ((rowG_in l (fun y hy=>h y (List.mem_cons_of_mem _ hy)) (fun y hy=>hl y (List.mem_cons_of_mem _ hy)) k j).wide r.1 (Nat.le_refl _))
theorem choiceG_in:∀ (l:List Sem),(∀ x∈l,SemIn x)→∀ i j,In i j (choiceG l i j)
 | [],_,i,j=>In.nil _ _
 | x::l,h,i,j=>by
  rw [choiceG]
  split
  ·rename_i q;exact h x (List.mem_cons_self ..) i j q
  ·exact choiceG_in l (fun y hy=>h y (List.mem_cons_of_mem _ hy)) i j
theorem turnsG_in {x:Sem} (h:SemIn x):∀ (f m:Nat) (n:Option Nat) (i j:Nat),In i j (turnsG x f m n i j)
 | 0,_,_,_,_=>In.nil _ _
 | f+1,m+1,n,i,j=>by
  rw [turnsG]
  cases hg:greatest (fun k=>x.m i k && turnsM x f m (n.map (· - 1)) k j) i j with
  | none=>exact In.nil _ _
  | some k=>
   have r:=greatest_some hg
   have hm:=r.2.2.1
   rw [Bool.and_eq_true] at hm
   exact ((h i k hm.1).wide (Nat.le_refl _) r.2.1).append ((turnsG_in h f m _ k j).wide r.1 (Nat.le_refl _))
 | f+1,0,n,i,j=>by
  rw [turnsG]
  split
  ·exact In.nil _ _
  ·cases hg:greatest (fun k=>x.m i k && turnsM x f 0 (n.map (· - 1)) k j) (i+1) j with
   | none=>exact In.nil _ _
   | some k=>
    have r:=greatest_some hg
    have hm:=r.2.2.1
    rw [Bool.and_eq_true] at hm
    exact ((h i k hm.1).wide (Nat.le_refl _) r.2.1).append ((turnsG_in h f 0 _ k j).wide (by omega) (Nat.le_refl _))
theorem node_in (s:ByteArray) (a:Lab) (l:List Sem) (h:∀ x∈l,SemIn x) (hl:∀ x∈l,∀ i j,x.m i j=true→i≤j):SemIn (node s a l):=by
 have hb:SemIn (bareSem s a l):=by
  intro i j hm
  have hij:=bare_le s a l hl i j hm
  unfold bareSem
  split
  ·exact In.nil _ _
  ·split
   ·refine In.append ?_ (choiceG_in l h i j)
    split
    ·intro x hx;simp at hx;subst hx;exact⟨Nat.le_refl _,hij,Nat.le_refl _⟩
    ·exact In.nil _ _
   ·split
    ·exact choiceG_in l h i j
    ·exact rowG_in l h hl i j
 unfold node
 split
 ·exact hb
 ·intro i j _;exact turnsG_in hb _ _ _ i j
theorem sems_in (s:ByteArray):∀ (l:List Tr),∀ x∈sems s l,SemIn x
 | [],x,hx=>by rw [sems_nil] at hx;cases hx
 | ⟨a,ks⟩::r,x,hx=>by
  rw [sems] at hx
  rcases List.mem_cons.mp hx with q|q
  ·rw [q];exact node_in s a (sems s ks) (sems_in s ks) (sems_le s ks)
  ·exact sems_in s r x q
theorem sem_in (s:ByteArray) (t:Tr):SemIn (sem s t):=node_in s _ _ (sems_in s t.kids) (sems_le s t.kids)
end Sp
end Go.Proofs.YtcpfpnjkfahjcaaGreat
/- The numbers of the groups of a pattern that was read: no program is named here. -/
namespace Go.Proofs.YtcpfpnjkfahjcaaGreat
namespace Sp
def NumIn (a b:Int):List Tr→Prop
 | []=>True
 | ⟨l,ks⟩::r=>(l.num=0∨(a < l.num∧(l.num:Int)≤b))∧NumIn a b ks∧NumIn a b r
theorem NumIn_nil (a b:Int):NumIn a b []:=by rw [NumIn];trivial
theorem NumIn_cons (a b:Int) (t:Tr) (r:List Tr):NumIn a b (t::r)↔(t.lab.num=0∨(a < t.lab.num∧(t.lab.num:Int)≤b))∧NumIn a b t.kids∧NumIn a b r:=by
 obtain⟨l,ks⟩:=t;rw [NumIn]
theorem NumIn_append {a b:Int}:∀ {l m:List Tr},NumIn a b l→NumIn a b m→NumIn a b (l++m)
 | [],_,_,k=>k
 | t::r,m,h,k=>by
  rw [NumIn_cons] at h
  show NumIn a b (t::(r++m))
  rw [NumIn_cons];exact⟨h.1,h.2.1,NumIn_append h.2.2 k⟩
theorem NumIn.wide {a b a' b':Int} (ha:a'≤a) (hb:b≤b'):∀ {l:List Tr},NumIn a b l→NumIn a' b' l
 | [],_=>NumIn_nil _ _
 | ⟨x,ks⟩::r,h=>by
  rw [NumIn] at h ⊢
  exact⟨by rcases h.1 with q|q;exact Or.inl q;exact Or.inr ⟨by omega,by omega⟩,h.2.1.wide ha hb,h.2.2.wide ha hb⟩
theorem NumIn_one {a b:Int} {l:Lab} {ks:List Tr} (h:l.num=0∨(a < l.num∧(l.num:Int)≤b)) (k:NumIn a b ks):NumIn a b [⟨l,ks⟩]:=by
 rw [NumIn_cons];exact⟨h,k,NumIn_nil _ _⟩
def NumF (f:At→Res (Tr×At)):Prop:=∀ x t y,f x=.ok (t,y)→0≤x.t→x.t≤y.t∧NumIn x.t y.t [t]
theorem head_num {s:ByteArray} {d:Nat} {x:At} {k:Nat} {y:At} (h:head s d x=.ok (k,y)) (h0:0≤x.t):(k=0∧y.t=x.t)∨((k:Int)=x.t+1∧y.t=x.t+1):=by
 unfold head at h
 split at h
 ·cases h
 ·split at h
  ·cases h1:need 58 s (x.i+2) with
   | error f=>simp [h1] at h
   | ok j=>simp [h1] at h;obtain⟨rfl,rfl⟩:=h;exact Or.inl ⟨rfl,rfl⟩
  ·split at h
   ·cases h
   ·cases h;exact Or.inr ⟨by omega,rfl⟩
theorem list_num {s:ByteArray} {i j:Nat} {t:Tr} (a b:Int) (h:list s i=.ok (t,j)):NumIn a b [t]:=by
 unfold list at h
 simp only [] at h
 cases h1:items s (s.size+1) (fun _=>false) (if isAt s i 94=true then i+1 else i) with
 | error f=>simp [h1] at h
 | ok v=>
  obtain⟨set,k⟩:=v
  simp only [h1] at h
  cases h
  exact NumIn_one (Or.inl rfl) (NumIn_nil _ _)
theorem atom_num {s:ByteArray} {d:Nat} {sub:At→Res (Tr×At)} (hs:NumF sub):NumF (atom sub s d):=by
 intro x t y h h0
 unfold atom at h
 by_cases c1:isAt s x.i 40=true
 ·rw [if_pos c1] at h
  unfold group at h
  cases hh:head s d x with
  | error f=>rw [hh] at h;cases h
  | ok v=>
   obtain⟨k,z⟩:=v
   rw [hh] at h
   have a:=head_num hh h0
   cases hb:sub z with
   | error f=>simp [hb] at h
   | ok v=>
    obtain⟨t',u⟩:=v
    have b:=hs z t' u hb (by omega)
    cases hn:need 41 s u.i with
    | error f=>simp [hb,hn] at h
    | ok j=>
     simp [hb,hn] at h;obtain⟨rfl,rfl⟩:=h
     refine⟨by show x.t≤u.t;omega,NumIn_one ?_ (b.2.wide (by omega) (Int.le_refl _))⟩
     show k=0∨(x.t < k∧(k:Int)≤u.t)
     omega
 rw [if_neg c1] at h
 by_cases c2:isAt s x.i 91=true
 ·rw [if_pos c2] at h
  cases h1:list s (x.i+1) with
  | error f=>simp [h1] at h
  | ok v=>obtain⟨t',j⟩:=v;simp [h1] at h;obtain⟨rfl,rfl⟩:=h;exact⟨Int.le_refl _,list_num _ _ h1⟩
 rw [if_neg c2] at h
 by_cases c3:isAt s x.i 46=true
 ·rw [if_pos c3] at h;cases h
  exact⟨Int.le_refl _,NumIn_one (Or.inl rfl) (NumIn_nil _ _)⟩
 rw [if_neg c3] at h
 cases h1:byteBut false s x.i with
 | error f=>simp [h1] at h
 | ok v=>
  obtain⟨b,j⟩:=v
  simp [h1] at h;obtain⟨rfl,rfl⟩:=h
  exact⟨Int.le_refl _,NumIn_one (Or.inl rfl) (NumIn_nil _ _)⟩
theorem part_num {s:ByteArray} {d:Nat} {sub:At→Res (Tr×At)} (hs:NumF sub):NumF (part sub s d):=by
 intro x t y h h0
 unfold part at h
 cases h1:atom sub s d x with
 | error f=>simp [h1] at h
 | ok v=>
  obtain⟨t',z⟩:=v
  have g:=atom_num hs x t' z h1 h0
  cases h2:count s z.i with
  | error f=>simp [h1,h2] at h
  | ok v=>
   obtain⟨m,n,j⟩:=v
   simp [h1,h2] at h;obtain⟨rfl,rfl⟩:=h
   have:=(NumIn_cons _ _ _ _).mp g.2
   exact⟨g.1,NumIn_one this.1 this.2.1⟩
theorem parts_num {s:ByteArray} {d:Nat} {sub:At→Res (Tr×At)} (hs:NumF sub):∀ {n:Nat} {l:List Tr} {x:At} {l':List Tr} {y:At} {a:Int},parts sub s d n l x=.ok (l',y)→0≤x.t→a≤x.t→NumIn a x.t l→x.t≤y.t∧NumIn a y.t l'
 | 0,_,_,_,_,_,h,_,_,_=>by cases h
 | n+1,l,x,l',y,a,h,h0,ha,hl=>by
  unfold parts at h
  split at h
  ·cases h;exact⟨Int.le_refl _,hl⟩
  ·cases h1:part sub s d x with
   | error f=>simp [h1] at h
   | ok v=>
    obtain⟨t',z⟩:=v
    have g:=part_num hs x t' z h1 h0
    simp only [h1] at h
    have r:=parts_num hs h (by omega) (by omega:a≤z.t) (NumIn_append (hl.wide (Int.le_refl _) g.1) (g.2.wide ha (Int.le_refl _)))
    exact⟨by omega,r.2⟩
theorem row_num {s:ByteArray} {d:Nat} {sub:At→Res (Tr×At)} (hs:NumF sub):NumF (row sub s d):=by
 intro x t y h h0
 unfold row at h
 cases h1:parts sub s d (s.size+1) [] x with
 | error f=>simp [h1] at h
 | ok v=>
  obtain⟨l,z⟩:=v
  simp [h1] at h;obtain⟨rfl,rfl⟩:=h
  have r:=parts_num hs h1 h0 (Int.le_refl _) (NumIn_nil _ _)
  exact⟨r.1,NumIn_one (Or.inl rfl) r.2⟩
theorem rows_num {s:ByteArray} {d:Nat} {sub:At→Res (Tr×At)} (hs:NumF sub):∀ {n:Nat} {l:List Tr} {x:At} {l':List Tr} {y:At} {a:Int},rows sub s d n l x=.ok (l',y)→0≤x.t→a≤x.t→NumIn a x.t l→x.t≤y.t∧NumIn a y.t l'
 | 0,_,_,_,_,_,h,_,_,_=>by cases h
 | n+1,l,x,l',y,a,h,h0,ha,hl=>by
  unfold rows at h
  cases h1:row sub s d x with
  | error f=>simp [h1] at h
  | ok v=>
   obtain⟨t',z⟩:=v
   have g:=row_num hs x t' z h1 h0
   have k:=NumIn_append (hl.wide (Int.le_refl _) g.1) (g.2.wide ha (Int.le_refl _))
   simp only [h1] at h
   split at h
   ·have r:=rows_num hs h (by show 0≤z.t;omega) (by show a≤z.t;omega) k
    have r1:z.t≤y.t:=r.1
    exact⟨by omega,r.2⟩
   ·cases h;exact⟨g.1,k⟩
theorem choice_num (s:ByteArray):∀ k,NumF (choice s k)
 | 0=>by intro x t y h;cases h
 | k+1=>by
  intro x t y h h0
  unfold choice at h
  cases h1:rows (choice s k) s (8 - k) (s.size+1) [] x with
  | error f=>simp [h1] at h
  | ok v=>
   obtain⟨l,z⟩:=v
   simp [h1] at h;obtain⟨rfl,rfl⟩:=h
   have r:=rows_num (choice_num s k) h1 h0 (Int.le_refl _) (NumIn_nil _ _)
   exact⟨r.1,NumIn_one (Or.inl rfl) r.2⟩
theorem read_num {s:ByteArray} {t:Tr} {n:Int} (h:read s=.ok (t,n)):0≤n∧NumIn 0 n [t]:=by
 unfold read at h
 split at h
 ·cases h
 ·cases h1:choice s 9 ⟨0,0⟩ with
  | error f=>simp [h1] at h
  | ok v=>
   obtain⟨t',y⟩:=v
   simp only [h1] at h
   split at h
   ·cases h
   ·split at h
    ·cases h
    ·cases h;exact choice_num s 9 _ _ _ h1 (Int.le_refl _)
/-! Each group that is gone through is of a kind. -/
end Sp
end Go.Proofs.YtcpfpnjkfahjcaaGreat
/- Where the groups are: the last of each that is gone through: no program is named here. -/
namespace Go.Proofs.YtcpfpnjkfahjcaaGreat
namespace Sp
abbrev Gr:=Nat×Nat×Nat
def put (f:Nat→Int×Int) (x:Gr):Nat→Int×Int:=fun k=>if k=x.1 then ((x.2.1:Int),(x.2.2:Int)) else f k
def puts (f:Nat→Int×Int) (l:List Gr):Nat→Int×Int:=l.foldl put f
def nowh:Nat→Int×Int:=fun _=>(-1,-1)
def spansOf (l:List Gr) (to:Nat):Nat→Int×Int:=puts nowh ((0,0,to)::l)
theorem puts_cons (f:Nat→Int×Int) (x:Gr) (l:List Gr):puts f (x::l)=puts (put f x) l:=rfl
theorem puts_append (f:Nat→Int×Int) (l m:List Gr):puts f (l++m)=puts (puts f l) m:=by unfold puts;rw [List.foldl_append]
theorem puts_over (k:Nat):∀ (l:List Gr) (f:Nat→Int×Int),puts f l k=if 0≤(puts nowh l k).1 then puts nowh l k else f k
 | [],f=>rfl
 | x::l,f=>by
  rw [puts_cons,puts_cons,puts_over k l (put f x),puts_over k l (put nowh x)]
  by_cases h:0≤(puts nowh l k).1
  ·simp only [if_pos h]
  ·simp only [if_neg h]
   unfold put
   by_cases hk:k=x.1
   ·simp only [if_pos hk]
    rw [if_pos (Int.natCast_nonneg _)]
   ·simp only [if_neg hk]
    rw [if_neg (by show ¬ (0:Int)≤-1;omega)]
theorem puts_is (k:Nat):∀ (l:List Gr),puts nowh l k=(-1,-1)∨∃ x∈l,x.1=k∧puts nowh l k=((x.2.1:Int),(x.2.2:Int))
 | []=>Or.inl rfl
 | x::l=>by
  rw [puts_cons,puts_over]
  rcases puts_is k l with h|⟨y,h1,h2,h3⟩
  ·rw [h,if_neg (by show ¬ (0:Int)≤-1;omega)]
   unfold put
   by_cases hk:k=x.1
   ·right;exact⟨x,List.mem_cons_self ..,hk.symm,by rw [if_pos hk]⟩
   ·left;rw [if_neg hk];rfl
  ·right
   refine⟨y,List.mem_cons_of_mem _ h1,h2,?_⟩
   rw [h3,if_pos (Int.natCast_nonneg _)]
def mv (a:Int) (x:Int×Int):Int×Int:=if 0≤x.1 then (x.1+a,x.2+a) else x
end Sp
end Go.Proofs.YtcpfpnjkfahjcaaGreat
/- A pattern that stands within another one,ahead of a bracket,is read as it is alone,its groups numbered further,unless a limit is passed: no program is named here. -/
namespace Go.Proofs.YtcpfpnjkfahjcaaGreat
namespace Sp
end Sp
end Go.Proofs.YtcpfpnjkfahjcaaGreat
/- A pattern that stands within another one,ahead of a bracket,is read as it is alone,its groups numbered further,unless a limit is passed (its trees): no program is named here. -/
namespace Go.Proofs.YtcpfpnjkfahjcaaGreat
namespace Sp
theorem read_choice {s:ByteArray} {t:Tr} {n:Int} (h:read s=.ok (t,n)):s.size≤200∧choice s 9 ⟨0,0⟩=.ok (t,⟨s.size,n⟩)∧0≤n∧n≤9:=by
 unfold read at h
 split at h
 ·cases h
 ·rename_i hl
  cases h1:choice s 9 ⟨0,0⟩ with
  | error f=>simp [h1] at h
  | ok v=>
   obtain⟨t',y⟩:=v
   have g:=choice_good s 9 _ _ _ h1 (by simp) (by simp) (by simp)
   simp only [h1] at h
   split at h
   ·cases h
   ·split at h
    ·cases h
    ·rename_i q _
     cases h
     obtain⟨yi,yt⟩:=y
     have:yi=s.size:=by simp at q g;omega
     subst this
     exact⟨by omega,rfl,g.2.2.1,g.2.2.2⟩
end Sp
namespace Sp
structure Rec where
 num:Nat
 frm:Nat
 len:Nat
 code:Int
 sp:Option (Nat→Int×Int)
structure Cu where
 num:Nat
 frm:Nat
 len:Nat
 held:List UInt8
abbrev Ap:=Nat→Nat→List UInt8→Int×Option (Nat→Int×Int)
def overR (ap:Ap) (c:Cu):Rec:=⟨c.num,c.frm,c.len,(ap c.frm c.len c.held).1,(ap c.frm c.len c.held).2⟩
def nextC (c:Cu):Cu:=⟨c.num+1,c.frm+c.len+1,0,[]⟩
def takeC (lim:Nat) (c:Cu) (K:List UInt8):Cu:=⟨c.num,c.frm,c.len+K.length,c.held++K.take (lim - c.held.length)⟩
def feedR (ap:Ap) (lim:Nat):Cu→List UInt8→List Rec
 | _,[]=>[]
 | c,x::K=>if x=10 then overR ap c::feedR ap lim (nextC c) K else feedR ap lim (takeC lim c [x]) K
def feedC (lim:Nat):Cu→List UInt8→Cu
 | c,[]=>c
 | c,x::K=>if x=10 then feedC lim (nextC c) K else feedC lim (takeC lim c [x]) K
def closeR (ap:Ap) (c:Cu):List Rec:=if c.len=0 then [] else [overR ap c]
theorem takeC_nil (lim:Nat) (c:Cu):takeC lim c []=c:=by cases c;simp [takeC]
theorem takeC_cons (lim:Nat) (c:Cu) (x:UInt8) (K:List UInt8):takeC lim (takeC lim c [x]) K=takeC lim c (x::K):=by
 cases c with
 | mk a b d L=>
  simp only [takeC,List.length_cons,List.length_nil,Cu.mk.injEq,true_and]
  refine⟨by omega,?_⟩
  rcases Nat.eq_zero_or_pos (lim - L.length) with h|h
  ·simp [h]
  ·obtain⟨k,hk⟩:∃ k,lim - L.length=k+1:=⟨lim - L.length - 1,by omega⟩
   have e:lim - (L++[x]).length=k:=by simp;omega
   rw [hk]
   simp only [List.take_succ_cons,List.take_nil,List.take_zero,e,List.append_assoc,List.singleton_append]
theorem feedR_take (ap:Ap) (lim:Nat):∀ (K:List UInt8) (c:Cu) (M:List UInt8),(∀ x∈K,x≠10)→feedR ap lim c (K++M)=feedR ap lim (takeC lim c K) M
 | [],c,M,_=>by rw [takeC_nil];rfl
 | x::K,c,M,h=>by
  rw [List.cons_append,feedR,if_neg (h x (by simp)),feedR_take ap lim K _ M (fun y hy=>h y (by simp [hy])),takeC_cons]
theorem feedC_take (lim:Nat):∀ (K:List UInt8) (c:Cu) (M:List UInt8),(∀ x∈K,x≠10)→feedC lim c (K++M)=feedC lim (takeC lim c K) M
 | [],c,M,_=>by rw [takeC_nil];rfl
 | x::K,c,M,h=>by
  rw [List.cons_append,feedC,if_neg (h x (by simp)),feedC_take lim K _ M (fun y hy=>h y (by simp [hy])),takeC_cons]
theorem feedR_nl (ap:Ap) (lim:Nat) (c:Cu) (M:List UInt8):feedR ap lim c (10::M)=overR ap c::feedR ap lim (nextC c) M:=by rw [feedR,if_pos rfl]
theorem feedC_nl (lim:Nat) (c:Cu) (M:List UInt8):feedC lim c (10::M)=feedC lim (nextC c) M:=by rw [feedC,if_pos rfl]
theorem feedC_append (lim:Nat):∀ (A:List UInt8) (c:Cu) (B:List UInt8),feedC lim c (A++B)=feedC lim (feedC lim c A) B
 | [],c,B=>rfl
 | x::A,c,B=>by
  rw [List.cons_append,feedC,feedC]
  split
  ·exact feedC_append lim A _ B
  ·exact feedC_append lim A _ B
theorem feedR_append (ap:Ap) (lim:Nat):∀ (A:List UInt8) (c:Cu) (B:List UInt8),feedR ap lim c (A++B)=feedR ap lim c A++feedR ap lim (feedC lim c A) B
 | [],c,B=>rfl
 | x::A,c,B=>by
  rw [List.cons_append,feedR,feedR,feedC]
  split
  ·rw [feedR_append ap lim A _ B];rfl
  ·exact feedR_append ap lim A _ B
def Cu.fit (lim:Nat) (c:Cu):Prop:=c.held.length=min c.len lim
theorem fit_take {lim:Nat} {c:Cu} (h:c.fit lim) (K:List UInt8):(takeC lim c K).fit lim:=by
 unfold Cu.fit at *;simp [takeC];omega
theorem fit_next (lim:Nat) (c:Cu):(nextC c).fit lim:=by simp [Cu.fit,nextC]
theorem fit_feed (lim:Nat):∀ (K:List UInt8) (c:Cu),c.fit lim→(feedC lim c K).fit lim
 | [],c,h=>h
 | x::K,c,h=>by
  rw [feedC];split
  ·exact fit_feed lim K _ (fit_next lim c)
  ·exact fit_feed lim K _ (fit_take h _)
def openL:Nat→List UInt8→Nat
 | o,[]=>o
 | o,x::K=>if x=10 then openL 0 K else openL (o+1) K
theorem feedC_len (lim:Nat):∀ (K:List UInt8) (c:Cu),(feedC lim c K).len=openL c.len K
 | [],c=>rfl
 | x::K,c=>by
  rw [feedC,openL];split
  ·exact feedC_len lim K _
  ·exact feedC_len lim K _
theorem feedC_num (lim:Nat) (ap:Ap):∀ (K:List UInt8) (c:Cu),(feedC lim c K).num=c.num+(feedR ap lim c K).length
 | [],c=>rfl
 | x::K,c=>by
  rw [feedC,feedR];split
  ·rw [feedC_num lim ap K _];simp [nextC];omega
  ·rw [feedC_num lim ap K _];simp [takeC]
theorem feedR_length (lim:Nat) (ap:Ap):∀ (K:List UInt8) (c:Cu),(feedR ap lim c K).length≤K.length
 | [],c=>Nat.le_refl _
 | x::K,c=>by
  rw [feedR];split
  ·have:=feedR_length lim ap K (nextC c);simp;omega
  ·have:=feedR_length lim ap K (takeC lim c [x]);simp;omega
structure StrAt (lim:Nat) (S:List UInt8) (i:Nat) (c:Cu):Prop where
 sum:c.frm+c.len=i
 held:c.held=((S.drop c.frm).take c.len).take lim
theorem StrAt.zero (lim:Nat) (S:List UInt8):StrAt lim S 0 ⟨0,0,0,[]⟩:=⟨rfl,by simp⟩
theorem StrAt.next {lim:Nat} {S:List UInt8} {i:Nat} {c:Cu} (h:StrAt lim S i c):StrAt lim S (i+1) (nextC c):=⟨by simp [nextC];have:=h.sum;omega,by simp [nextC]⟩
theorem StrAt.take {lim:Nat} {S:List UInt8} {i:Nat} {c:Cu} (h:StrAt lim S i c) {x:UInt8} (hx:S[i]?=some x):StrAt lim S (i+1) (takeC lim c [x]):=by
 have hs:=h.sum
 have hi:i < S.length:=by
  rcases Nat.lt_or_ge i S.length with q|q
  ·exact q
  ·rw [List.getElem?_eq_none q] at hx;cases hx
 refine⟨by simp [takeC];omega,?_⟩
 simp only [takeC,List.length_cons,List.length_nil]
 have e:(S.drop c.frm).take (c.len+1)=(S.drop c.frm).take c.len++[x]:=by
  rw [List.take_add_one,List.getElem?_drop,hs,hx];rfl
 have hl:((S.drop c.frm).take c.len).length=c.len:=by simp;omega
 rw [Nat.zero_add,e,List.take_append,h.held,hl]
 congr 1
 rw [List.length_take,hl]
 rcases Nat.lt_or_ge c.len lim with q|q
 ·rw [Nat.min_eq_right (by omega)]
 ·rw [Nat.min_eq_left (by omega)];have:lim - c.len=0:=by omega
  simp [this]
end Sp
end Go.Proofs.YtcpfpnjkfahjcaaGreat
