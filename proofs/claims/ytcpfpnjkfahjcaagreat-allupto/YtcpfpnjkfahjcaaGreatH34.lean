import Derived.Test.YtcpfpnjkfahjcaaGreatH02
import Derived.Test.YtcpfpnjkfahjcaaGreatH31
import Derived.Test.YtcpfpnjkfahjcaaGreatH33
set_option linter.unusedSimpArgs false
set_option linter.unusedVariables false
/- What a row of nodes says,and that a tree's nodes say what the tree does: no program is named here. -/
namespace Go.Proofs.YtcpfpnjkfahjcaaGreat
namespace Sp
def SemEq (A B:Sem):Prop:=∀ i j,i≤j→A.m i j=B.m i j∧(B.m i j=true→A.g i j=B.g i j)
theorem SemEq.refl (A:Sem):SemEq A A:=fun _ _ _=>⟨rfl,fun _=>rfl⟩
def NilS (T:Sem):Prop:=∀ i j,i≤j→T.m i j=(i == j)∧(T.m i j=true→T.g i j=[])
def OneS (s:ByteArray) (f:Nat→Bool) (T:Sem):Prop:=∀ i j,i≤j→T.m i j=one s f i j∧(T.m i j=true→T.g i j=[])
def PairS (A B T:Sem):Prop:=∀ i j,i≤j→T.m i j=cutB A.m B.m i i j∧∀ c,greatest (fun c=>A.m i c && B.m c j) i j=some c→T.g i j=A.g i c++B.g c j
def EithS (A B T:Sem):Prop:=∀ i j,i≤j→T.m i j=(A.m i j || B.m i j)∧(T.m i j=true→T.g i j=if A.m i j then A.g i j else B.g i j)
def GrpS (n:Nat) (A T:Sem):Prop:=∀ i j,i≤j→T.m i j=A.m i j∧(T.m i j=true→T.g i j=(if 0 < n then [(n,i,j)] else [])++A.g i j)
def TurnS (A B T:Sem):Prop:=∀ i j,i≤j→T.m i j=(i == j || cutB A.m B.m (i+1) i j)∧(i=j→T.g i j=[])∧∀ c,i < j→greatest (fun c=>A.m i c && B.m c j) (i+1) j=some c→T.g i j=A.g i c++B.g c j
theorem PairS.congr {A B T A' B':Sem} (h:PairS A B T) (ha:SemEq A' A) (hb:SemEq B' B):PairS A' B' T:=fun i j hij=>by
 obtain⟨h1,h2⟩:=h i j hij
 have e:∀ c,i≤c→c≤j→(A'.m i c && B'.m c j)=(A.m i c && B.m c j):=fun c h3 h4=>by rw [(ha i c h3).1,(hb c j h4).1]
 refine⟨h1.trans (cutB_congr fun c h3 h4=>(e c h3 h4).symm),fun c hc=>?_⟩
 rw [greatest_congr (fun c h3 h4=>e c h3 h4)] at hc
 have r:=greatest_some hc
 have r3:=r.2.2.1
 simp at r3
 rw [h2 c hc,(ha i c r.1).2 r3.1,(hb c j r.2.1).2 r3.2]
theorem TurnS.congr {A B T A' B':Sem} (h:TurnS A B T) (ha:SemEq A' A) (hb:SemEq B' B):TurnS A' B' T:=fun i j hij=>by
 obtain⟨h1,h2,h5⟩:=h i j hij
 have e:∀ c,i+1≤c→c≤j→(A'.m i c && B'.m c j)=(A.m i c && B.m c j):=fun c h3 h4=>by rw [(ha i c (by omega)).1,(hb c j h4).1]
 refine⟨?_,h2,fun c hlt hc=>?_⟩
 ·rw [h1];congr 1;exact (cutB_congr fun c h3 h4=>(e c h3 h4).symm)
 ·rw [greatest_congr (fun c h3 h4=>e c h3 h4)] at hc
  have r:=greatest_some hc
  have r3:=r.2.2.1
  simp at r3
  rw [h5 c hlt hc,(ha i c (by omega)).2 r3.1,(hb c j r.2.1).2 r3.2]
theorem EithS.congr {A B T A' B':Sem} (h:EithS A B T) (ha:SemEq A' A) (hb:SemEq B' B):EithS A' B' T:=fun i j hij=>by
 obtain⟨h1,h2⟩:=h i j hij
 obtain⟨a1,a2⟩:=ha i j hij
 obtain⟨b1,b2⟩:=hb i j hij
 refine⟨by rw [h1,a1,b1],fun ht=>?_⟩
 rw [h2 ht,a1]
 cases hA:A.m i j with
 | true=>simp [a2 hA]
 | false=>
  have:B.m i j=true:=by rw [h1,hA] at ht;simpa using ht
  simp [b2 this]
theorem GrpS.congr {n:Nat} {A T A':Sem} (h:GrpS n A T) (ha:SemEq A' A):GrpS n A' T:=fun i j hij=>by
 obtain⟨h1,h2⟩:=h i j hij
 obtain⟨a1,a2⟩:=ha i j hij
 exact⟨by rw [h1,a1],fun ht=>by rw [h2 ht,a2 (by rw [← h1];exact ht)]⟩
def NodeOk (s:ByteArray) (E:Nat→Sem) (k:Nat) (n:Nd):Prop:=
 (n.kind=0∧NilS (E k))∨(n.kind=1∧OneS s n.set (E k))∨(n.kind=2∧∃ a b:Nat,n.a=a∧n.b=b∧a < k∧b < k∧PairS (E a) (E b) (E k))
 ∨ (n.kind=3∧∃ a b:Nat,n.a=a∧n.b=b∧a < k∧b < k∧EithS (E a) (E b) (E k))∨(n.kind=4∧∃ a m:Nat,n.a=a∧n.num=m∧a < k∧GrpS m (E a) (E k))
 ∨ (n.kind=5∧∃ a b:Nat,n.a=a∧n.b=b∧a < k∧b < k∧TurnS (E a) (E b) (E k))∨(n.kind=6∧∃ a:Nat,n.a=a∧a < k∧TurnS (E a) (E k) (E k))
theorem NodeOk.keep {s:ByteArray} {E E':Nat→Sem} {k:Nat} {n:Nd} (h:NodeOk s E k n) (e:∀ q,q≤k→E' q=E q):NodeOk s E' k n:=by
 have ek:=e k (Nat.le_refl _)
 rcases h with ⟨h1,h2⟩|⟨h1,h2⟩|⟨h1,a,b,h2,h3,h4,h5,h6⟩|⟨h1,a,b,h2,h3,h4,h5,h6⟩|⟨h1,a,m,h2,h3,h4,h5⟩|⟨h1,a,b,h2,h3,h4,h5,h6⟩|⟨h1,a,h2,h3,h4⟩
 ·exact Or.inl ⟨h1,by rw [ek];exact h2⟩
 ·exact Or.inr (Or.inl ⟨h1,by rw [ek];exact h2⟩)
 ·exact Or.inr (Or.inr (Or.inl ⟨h1,a,b,h2,h3,h4,h5,by rw [ek,e a (by omega),e b (by omega)];exact h6⟩))
 ·exact Or.inr (Or.inr (Or.inr (Or.inl ⟨h1,a,b,h2,h3,h4,h5,by rw [ek,e a (by omega),e b (by omega)];exact h6⟩)))
 ·exact Or.inr (Or.inr (Or.inr (Or.inr (Or.inl ⟨h1,a,m,h2,h3,h4,by rw [ek,e a (by omega)];exact h5⟩))))
 ·exact Or.inr (Or.inr (Or.inr (Or.inr (Or.inr (Or.inl ⟨h1,a,b,h2,h3,h4,h5,by rw [ek,e a (by omega),e b (by omega)];exact h6⟩)))))
 ·exact Or.inr (Or.inr (Or.inr (Or.inr (Or.inr (Or.inr ⟨h1,a,h2,h3,by rw [ek,e a (by omega)];exact h4⟩)))))
def Means (s:ByteArray) (ns:List Nd) (E:Nat→Sem):Prop:=∀ k n,ns[k]?=some n→NodeOk s E k n
def upE (E:Nat→Sem) (k:Nat) (T:Sem):Nat→Sem:=fun q=>if q=k then T else E q
theorem upE_at (E:Nat→Sem) (k:Nat) (T:Sem):upE E k T k=T:=by simp [upE]
theorem upE_lt (E:Nat→Sem) {k q:Nat} (T:Sem) (h:q < k):upE E k T q=E q:=by simp [upE];omega
theorem Means.add {s:ByteArray} {c:Cp} {E:Nat→Sem} (h:Means s c.ns E) {n:Nd} {T:Sem} (hn:NodeOk s (upE E c.ns.length T) c.ns.length n):Means s (c.add n).1.ns (upE E c.ns.length T):=fun k m hk=>by
 rcases Nat.lt_or_ge k c.ns.length with q|q
 ·have:c.ns[k]?=some m:=by rw [← hk];simp [Cp.add,List.getElem?_append_left q]
  exact (h k m this).keep fun r hr=>upE_lt E T (by omega)
 ·have hk':k=c.ns.length:=by
   have:=(List.getElem?_eq_some_iff.mp hk).1
   simp [Cp.add] at this;omega
  subst hk'
  simp [Cp.add] at hk
  subst hk;exact hn
structure Got (s:ByteArray) (c:Cp) (E:Nat→Sem) (x:Cp×Int) (T:Sem) (E':Nat→Sem):Prop where
 old:∀ q,q < c.ns.length→E' q=E q
 mean:Means s x.1.ns E'
 len:c.ns.length≤x.1.ns.length
 idx:∃ k:Nat,x.2=k∧k < x.1.ns.length∧SemEq (E' k) T
theorem Got.add {s:ByteArray} {c:Cp} {E:Nat→Sem} (h:Means s c.ns E) {n:Nd} {T:Sem} (hn:NodeOk s (upE E c.ns.length T) c.ns.length n):Got s c E (c.add n) T (upE E c.ns.length T):=
 ⟨fun q hq=>upE_lt E T hq,h.add hn,by simp [Cp.add],c.ns.length,rfl,by simp [Cp.add],by rw [upE_at];exact SemEq.refl _⟩
theorem Got.trans {s:ByteArray} {c:Cp} {E E1 E2:Nat→Sem} {x y:Cp×Int} {T U:Sem} (h:Got s c E x T E1) (k:Got s x.1 E1 y U E2):Got s c E y U E2:=
 ⟨fun q hq=>(k.old q (Nat.lt_of_lt_of_le hq h.len)).trans (h.old q hq),k.mean,Nat.le_trans h.len k.len,k.idx⟩
theorem add_pair {s:ByteArray} {c:Cp} {E:Nat→Sem} (h:Means s c.ns E) {a b:Nat} {A B T:Sem} (ha:a < c.ns.length) (hb:b < c.ns.length) (eA:SemEq (E a) A) (eB:SemEq (E b) B) (hT:PairS A B T):Got s c E (c.add (nd 2 a b)) T (upE E c.ns.length T):=
 Got.add h (Or.inr (Or.inr (Or.inl ⟨rfl,a,b,rfl,rfl,ha,hb,by rw [upE_at,upE_lt E T ha,upE_lt E T hb];exact hT.congr eA eB⟩)))
theorem add_turn {s:ByteArray} {c:Cp} {E:Nat→Sem} (h:Means s c.ns E) {a b:Nat} {A B T:Sem} (ha:a < c.ns.length) (hb:b < c.ns.length) (eA:SemEq (E a) A) (eB:SemEq (E b) B) (hT:TurnS A B T):Got s c E (c.add (nd 5 a b)) T (upE E c.ns.length T):=
 Got.add h (Or.inr (Or.inr (Or.inr (Or.inr (Or.inr (Or.inl ⟨rfl,a,b,rfl,rfl,ha,hb,by rw [upE_at,upE_lt E T ha,upE_lt E T hb];exact hT.congr eA eB⟩))))))
theorem add_turns {s:ByteArray} {c:Cp} {E:Nat→Sem} (h:Means s c.ns E) {a:Nat} {A T:Sem} (ha:a < c.ns.length) (eA:SemEq (E a) A) (hT:TurnS A T T):Got s c E (c.add (nd 6 a 0)) T (upE E c.ns.length T):=
 Got.add h (Or.inr (Or.inr (Or.inr (Or.inr (Or.inr (Or.inr ⟨rfl,a,rfl,ha,by rw [upE_at,upE_lt E T ha];exact hT.congr eA (SemEq.refl _)⟩))))))
theorem add_eith {s:ByteArray} {c:Cp} {E:Nat→Sem} (h:Means s c.ns E) {a b:Nat} {A B T:Sem} (ha:a < c.ns.length) (hb:b < c.ns.length) (eA:SemEq (E a) A) (eB:SemEq (E b) B) (hT:EithS A B T):Got s c E (c.add (nd 3 a b)) T (upE E c.ns.length T):=
 Got.add h (Or.inr (Or.inr (Or.inr (Or.inl ⟨rfl,a,b,rfl,rfl,ha,hb,by rw [upE_at,upE_lt E T ha,upE_lt E T hb];exact hT.congr eA eB⟩))))
theorem add_nil {s:ByteArray} {c:Cp} {E:Nat→Sem} (h:Means s c.ns E) {T:Sem} (hT:NilS T):Got s c E (c.add (nd 0 0 0)) T (upE E c.ns.length T):=
 Got.add h (Or.inl ⟨rfl,by rw [upE_at];exact hT⟩)
theorem reps_got {s:ByteArray} (kd:Int) (a:Nat) (A:Sem) (D:Nat→Sem) (hk:kd=2∨kd=5):∀ (n d:Nat) (x:Cp×Int) (E:Nat→Sem),(∀ r,r < n→if kd=2 then PairS A (D (d+r)) (D (d+r+1)) else TurnS A (D (d+r)) (D (d+r+1)))→Means s x.1.ns E→a < x.1.ns.length→SemEq (E a) A→(∃ k:Nat,x.2=k∧k < x.1.ns.length∧SemEq (E k) (D d))→∃ E',Got s x.1 E (reps kd a n x) (D (d+n)) E'
 | 0,d,x,E,_,h,_,_,hx=>⟨E,fun _ _=>rfl,h,Nat.le_refl _,hx⟩
 | n+1,d,x,E,hD,h,ha,eA,⟨k,e1,e2,e3⟩=>by
  have h0:=hD 0 (by omega)
  have g1:∃ E1,Got s x.1 E (x.1.add (nd kd a x.2)) (D (d+1)) E1:=by
   rcases hk with rfl|rfl
   ·rw [if_pos rfl] at h0;rw [e1];exact⟨_,add_pair h ha e2 eA e3 h0⟩
   ·rw [if_neg (by decide)] at h0;rw [e1];exact⟨_,add_turn h ha e2 eA e3 h0⟩
  obtain⟨E1,g1⟩:=g1
  obtain⟨E2,g2⟩:=reps_got kd a A D hk n (d+1) (x.1.add (nd kd a x.2)) E1 (fun r hr=>by
   have:=hD (r+1) (by omega)
   rw [show d+1+r=d+(r+1) by omega];exact this) g1.mean (Nat.lt_of_lt_of_le ha g1.len) (by rw [g1.old a ha];exact eA) g1.idx
  refine⟨E2,?_⟩
  rw [show d+(n+1)=d+1+n by omega]
  exact g1.trans g2
end Sp
end Go.Proofs.YtcpfpnjkfahjcaaGreat
/- Counts,choices and rows as nodes: no program is named here. -/
namespace Go.Proofs.YtcpfpnjkfahjcaaGreat
namespace Sp
def turnsS (B:Sem) (m:Nat) (n:Option Nat) (d:Nat):Sem:=⟨turnsD B m n d,turnsGD B m n d⟩
theorem turnsS_pair (B:Sem) (m:Nat) (n:Option Nat) (d:Nat) (h:d < m):PairS B (turnsS B m n (d+1)) (turnsS B m n d):=fun i j hij=>
 ⟨turnsD_less B m n d i j h,fun c hc=>turnsGD_less B m n d i j c h hc⟩
theorem turnsS_turn (B:Sem) (m:Nat) (n:Option Nat) (d:Nat) (h:m≤d) (hn:n.map (· - d)≠some 0):TurnS B (turnsS B m n (d+1)) (turnsS B m n d):=fun i j hij=>by
 refine⟨?_,fun e=>?_,fun c hlt hc=>turnsGD_more B m n d i j c h hlt hc⟩
 ·show turnsD B m n d i j=_
  rw [turnsD_more B m n d i j h]
  have:(n.map (· - d) != some 0)=true:=by simpa using hn
  rw [this];rfl
 ·subst e;exact turnsGD_done B m n d i h
theorem turnsS_endless (B:Sem) (m:Nat):TurnS B (turnsS B m none m) (turnsS B m none m):=by
 have h:=turnsS_turn B m none m (Nat.le_refl _) (by simp)
 have e:turnsS B m none (m+1)=turnsS B m none m:=by
  unfold turnsS
  congr 1
  ·funext i j;exact turnsD_endless B m (m+1) i j (by omega)
  ·funext i j;exact turnsGD_endless B m (m+1) i j (by omega)
 rw [e] at h
 exact h
theorem turnsS_nil (B:Sem) (m M:Nat) (h:m≤M):NilS (turnsS B m (some M) M):=fun i j hij=>by
 have e:(turnsS B m (some M) M).m i j=(i == j):=by
  show turnsD B m (some M) M i j=_
  rw [turnsD_more B m (some M) M i j h];simp
 refine⟨e,fun ht=>?_⟩
 rw [e] at ht
 have:i=j:=by simpa using ht
 subst this
 exact turnsGD_done B m (some M) M i h
theorem turnsS_zero (B:Sem) (m:Nat) (n:Option Nat):turnsS B m n 0=⟨fun i j=>turnsM B (m+(j - i)+1) m n i j,fun i j=>turnsG B (m+(j - i)+1) m n i j⟩:=by
 have e:n.map (· - 0)=n:=by cases n<;>simp
 unfold turnsS turnsD turnsGD
 simp only [Nat.sub_zero]
 congr 1<;>(funext i j;rw [show (n.map fun x=>x)=n by cases n<;>simp])
theorem wrap_got {s:ByteArray} {c:Cp} {E E1:Nat→Sem} {x:Cp×Int} {a:Lab} {l:List Sem} (ha:CanL a) (h:Got s c E x (bareSem s a l) E1):∃ E2,Got s c E (wrap a x) (node s a l) E2:=by
 unfold wrap node
 by_cases hm:a.min < 0
 ·rw [if_pos hm,if_pos hm];exact⟨E1,h⟩
 ·rw [if_neg hm,if_neg hm]
  obtain⟨k,e1,e2,e3⟩:=h.idx
  rw [← turnsS_zero]
  have hmm:=ha.mm (by omega)
  generalize bareSem s a l=B at *
  have key:∃ E2,Got s x.1 E1 (wrap0 a x) (turnsS B a.min.toNat (most a.max) a.min.toNat) E2:=by
   unfold wrap0
   by_cases hx:a.max < 0
   ·rw [if_pos hx]
    have e:most a.max=none:=by unfold most;rw [if_pos hx]
    rw [e,e1]
    exact⟨_,add_turns h.mean e2 e3 (turnsS_endless B _)⟩
   ·rw [if_neg hx]
    have e:most a.max=some a.max.toNat:=by unfold most;rw [if_neg hx]
    rw [e]
    have g1:=add_nil (s:=s) (c:=x.1) (E:=E1) h.mean (turnsS_nil B a.min.toNat a.max.toNat (by omega))
    have hlt:=Nat.lt_of_lt_of_le e2 g1.len
    rw [e1]
    obtain⟨E2,g2⟩:=reps_got (s:=s) 5 k B (fun r=>turnsS B a.min.toNat (some a.max.toNat) (a.max.toNat - r)) (Or.inr rfl) (a.max - a.min).toNat 0 (x.1.add (nd 0 0 0)) _ (fun r hr=>by
     rw [if_neg (by decide)]
     have e5:a.max.toNat - (0+r)=(a.max.toNat - (0+r+1))+1:=by omega
     show TurnS B (turnsS B a.min.toNat (some a.max.toNat) (a.max.toNat - (0+r))) _
     rw [e5]
     exact turnsS_turn B _ _ _ (by omega) (by simp;omega)) g1.mean hlt (by rw [g1.old k e2];exact e3) g1.idx
    have e6:a.max.toNat - (0+(a.max - a.min).toNat)=a.min.toNat:=by omega
    simp only [e6] at g2
    exact⟨E2,g1.trans g2⟩
  obtain⟨E2,g2⟩:=key
  obtain⟨E3,g3⟩:=reps_got (s:=s) 2 k B (fun r=>turnsS B a.min.toNat (most a.max) (a.min.toNat - r)) (Or.inl rfl) a.min.toNat 0 (wrap0 a x) E2 (fun r hr=>by
   rw [if_pos rfl]
   have e5:a.min.toNat - (0+r)=(a.min.toNat - (0+r+1))+1:=by omega
   show PairS B (turnsS B a.min.toNat (most a.max) (a.min.toNat - (0+r))) _
   rw [e5]
   exact turnsS_pair B _ _ _ (by omega)) g2.mean (Nat.lt_of_lt_of_le e2 g2.len) (by rw [g2.old k e2];exact e3) g2.idx
  have e7:a.min.toNat - (0+a.min.toNat)=0:=by omega
  simp only [e7] at g3
  rw [e1]
  exact⟨E3,(h.trans g2).trans g3⟩
def Idx (E:Nat→Sem) (N:Nat):List Int→List Sem→Prop
 | [],[]=>True
 | x::xs,S::Ss=>(∃ k:Nat,x=k∧k < N∧SemEq (E k) S)∧Idx E N xs Ss
 | _,_=>False
theorem Idx.keep {E E':Nat→Sem} {N N':Nat} (hE:∀ q,q < N→E' q=E q) (hN:N≤N'):∀ {xs:List Int} {Ss:List Sem},Idx E N xs Ss→Idx E' N' xs Ss
 | [],[],_=>trivial
 | x::xs,S::Ss,⟨⟨k,h1,h2,h3⟩,h4⟩=>⟨⟨k,h1,Nat.lt_of_lt_of_le h2 hN,by rw [hE k h2];exact h3⟩,h4.keep hE hN⟩
 | [],_::_,h=>h.elim
 | _::_,[],h=>h.elim
theorem Idx.append {E:Nat→Sem} {N:Nat}:∀ {xs ys:List Int} {Ss Ts:List Sem},Idx E N xs Ss→Idx E N ys Ts→Idx E N (xs++ys) (Ss++Ts)
 | [],_,[],_,_,k=>k
 | x::xs,_,S::Ss,_,⟨h1,h2⟩,k=>⟨h1,h2.append k⟩
 | [],_,_::_,_,h,_=>h.elim
 | _::_,_,[],_,h,_=>h.elim
theorem Idx.reverse {E:Nat→Sem} {N:Nat}:∀ {xs:List Int} {Ss:List Sem},Idx E N xs Ss→Idx E N xs.reverse Ss.reverse
 | [],[],_=>trivial
 | x::xs,S::Ss,⟨h1,h2⟩=>by
  rw [List.reverse_cons,List.reverse_cons]
  exact h2.reverse.append ⟨h1,trivial⟩
 | [],_::_,h=>h.elim
 | _::_,[],h=>h.elim
def choiceS (l:List Sem):Sem:=⟨choiceM l,choiceG l⟩
def rowS (l:List Sem):Sem:=⟨rowM l,rowG l⟩
theorem choiceS_cons (t:Sem) (l:List Sem):EithS t (choiceS l) (choiceS (t::l)):=fun i j hij=>by
 refine⟨rfl,fun _=>?_⟩
 show choiceG (t::l) i j=_
 rw [choiceG];rfl
theorem choiceS_one {A t:Sem} (h:SemEq A t):SemEq A (choiceS [t]):=fun i j hij=>by
 obtain⟨h1,h2⟩:=h i j hij
 have e:(choiceS [t]).m i j=t.m i j:=by show choiceM [t] i j=_;simp [choiceM]
 refine⟨h1.trans e.symm,fun ht=>?_⟩
 rw [e] at ht
 show _=choiceG [t] i j
 rw [choiceG,ht,h2 ht];rfl
theorem rowS_cons (t:Sem) (l:List Sem):PairS t (rowS l) (rowS (t::l)):=fun i j hij=>by
 refine⟨rfl,fun c hc=>?_⟩
 show rowG (t::l) i j=_
 have hc':greatest (fun k=>t.m i k && rowM l k j) i j=some c:=hc
 rw [rowG,hc'];rfl
theorem rowS_nil:NilS (rowS []):=fun i j hij=>⟨rfl,fun _=>rfl⟩
theorem pick_got {s:ByteArray}:∀ (L:List Int) (Ss Q:List Sem) (x:Cp×Int) (E:Nat→Sem),Idx E x.1.ns.length L Ss→Means s x.1.ns E→(∃ k:Nat,x.2=k∧k < x.1.ns.length∧SemEq (E k) (choiceS Q))→∃ E',Got s x.1 E (pick L x) (choiceS (Ss.reverse++Q)) E'
 | [],[],Q,x,E,_,h,hx=>⟨E,fun _ _=>rfl,h,Nat.le_refl _,hx⟩
 | t::L,S::Ss,Q,x,E,⟨⟨k,h1,h2,h3⟩,h4⟩,h,⟨o,e1,e2,e3⟩=>by
  have g1:=add_eith (s:=s) h h2 e2 h3 e3 (choiceS_cons S Q)
  have ex:(if x.2 < 0 then (x.1,t) else x.1.add (nd 3 t x.2))=x.1.add (nd 3 k o):=by rw [if_neg (by omega),h1,e1]
  rw [pick,ex]
  obtain⟨E2,g2⟩:=pick_got L Ss (S::Q) (x.1.add (nd 3 k o)) _ (h4.keep g1.old g1.len) g1.mean g1.idx
  refine⟨E2,?_⟩
  rw [List.reverse_cons,List.append_assoc]
  exact g1.trans g2
 | [],_::_,_,_,_,h,_,_=>h.elim
 | _::_,[],_,_,_,h,_,_=>h.elim
theorem chain_got {s:ByteArray}:∀ (L:List Int) (Ss Q:List Sem) (x:Cp×Int) (E:Nat→Sem),Idx E x.1.ns.length L Ss→Means s x.1.ns E→(∃ k:Nat,x.2=k∧k < x.1.ns.length∧SemEq (E k) (rowS Q))→∃ E',Got s x.1 E (chain L x) (rowS (Ss.reverse++Q)) E'
 | [],[],Q,x,E,_,h,hx=>⟨E,fun _ _=>rfl,h,Nat.le_refl _,hx⟩
 | t::L,S::Ss,Q,x,E,⟨⟨k,h1,h2,h3⟩,h4⟩,h,⟨o,e1,e2,e3⟩=>by
  have g1:=add_pair (s:=s) h h2 e2 h3 e3 (rowS_cons S Q)
  rw [chain,h1,e1]
  obtain⟨E2,g2⟩:=chain_got L Ss (S::Q) (x.1.add (nd 2 k o)) _ (h4.keep g1.old g1.len) g1.mean g1.idx
  refine⟨E2,?_⟩
  rw [List.reverse_cons,List.append_assoc]
  exact g1.trans g2
 | [],_::_,_,_,_,h,_,_=>h.elim
 | _::_,[],_,_,_,h,_,_=>h.elim
end Sp
end Go.Proofs.YtcpfpnjkfahjcaaGreat
/- Groups are numbered as they open;a tree's nodes say what the tree does: no program is named here. -/
namespace Go.Proofs.YtcpfpnjkfahjcaaGreat
namespace Sp
def NumTo:Int→List Tr→Prop
 | _,[]=>True
 | c,⟨a,ks⟩::r=>(a.kind=3→a.told=true→(a.num:Int)=c+1)∧(2 < a.kind→NumTo (c+told1 a) ks)∧NumTo (c+tolds [⟨a,ks⟩]) r
theorem NumTo_nil (c:Int):NumTo c []:=by rw [NumTo];trivial
theorem NumTo_cons (c:Int) (a:Lab) (ks r:List Tr):NumTo c (⟨a,ks⟩::r)↔(a.kind=3→a.told=true→(a.num:Int)=c+1)∧(2 < a.kind→NumTo (c+told1 a) ks)∧NumTo (c+tolds [⟨a,ks⟩]) r:=by rw [NumTo]
theorem NumTo_one (c:Int) (a:Lab) (ks:List Tr):NumTo c [⟨a,ks⟩]↔(a.kind=3→a.told=true→(a.num:Int)=c+1)∧(2 < a.kind→NumTo (c+told1 a) ks):=by
 rw [NumTo_cons];exact⟨fun h=>⟨h.1,h.2.1⟩,fun h=>⟨h.1,h.2,NumTo_nil _⟩⟩
theorem tolds_split (t:Tr) (r:List Tr):tolds (t::r)=tolds [t]+tolds r:=tolds_append [t] r
theorem NumTo_append:∀ (l m:List Tr) (c:Int),NumTo c l→NumTo (c+tolds l) m→NumTo c (l++m)
 | [],m,c,_,h=>by rw [tolds_nil,Int.add_zero] at h;exact h
 | ⟨a,ks⟩::r,m,c,h,k=>by
  rw [NumTo_cons] at h
  rw [List.cons_append,NumTo_cons]
  refine⟨h.1,h.2.1,NumTo_append r m _ h.2.2 ?_⟩
  rw [tolds_split] at k
  rw [Int.add_assoc];exact k
def NF (f:At→Res (Tr×At)):Prop:=∀ x t y,f x=.ok (t,y)→0≤x.t→NumTo x.t [t]
theorem list_numto {s:ByteArray} {i j:Nat} {t:Tr} (c:Int) (h:list s i=.ok (t,j)):NumTo c [t]:=by
 unfold list at h
 simp only [] at h
 cases h1:items s (s.size+1) (fun _=>false) (if isAt s i 94=true then i+1 else i) with
 | error f=>simp [h1] at h
 | ok v=>
  obtain⟨set,k⟩:=v
  simp only [h1] at h
  cases h
  rw [NumTo_one];simp
theorem atom_numto {s:ByteArray} {d:Nat} {sub:At→Res (Tr×At)} (hs:NF sub) {x:At} {t:Tr} {y:At} (h:atom sub s d x=.ok (t,y)) (h0:0≤x.t):NumTo x.t [t]:=by
 unfold atom at h
 by_cases c1:isAt s x.i 40=true
 ·rw [if_pos c1] at h
  unfold group at h
  cases hh:head s d x with
  | error f=>rw [hh] at h;cases h
  | ok v=>
   obtain⟨k,z⟩:=v
   rw [hh] at h
   have a:=head_num hh h0
   cases hb:sub z with
   | error f=>simp [hb] at h
   | ok v=>
    obtain⟨t',u⟩:=v
    have b:=hs z t' u hb (by rcases a with a|a<;>omega)
    cases hn:need 41 s u.i with
    | error f=>simp [hb,hn] at h
    | ok j=>
     simp [hb,hn] at h;obtain⟨rfl,rfl⟩:=h
     have e:told1 { blank with kind:=3,told:=!decide (k=0),num:=k }=if k≠0 then 1 else 0:=by
      unfold told1;by_cases hk:k=0<;>simp [hk]
     refine (NumTo_one _ _ _).mpr ⟨fun _ hk=>?_,fun _=>?_⟩
     ·have hk':k≠0:=by simpa using hk
      rcases a with a|a
      ·exact absurd a.1 hk'
      ·exact a.1
     ·have q:x.t+told1 { blank with kind:=3,told:=!decide (k=0),num:=k }=z.t:=by
       rw [e];rcases a with a|a
       ·rw [if_neg (by omega)];omega
       ·rw [if_pos (by omega)];omega
      have q':=congrArg (fun c=>NumTo c [t']) q
      exact q'.mpr b
 rw [if_neg c1] at h
 by_cases c2:isAt s x.i 91=true
 ·rw [if_pos c2] at h
  cases h1:list s (x.i+1) with
  | error f=>simp [h1] at h
  | ok v=>obtain⟨t',j⟩:=v;simp [h1] at h;obtain⟨rfl,rfl⟩:=h;exact list_numto _ h1
 rw [if_neg c2] at h
 by_cases c3:isAt s x.i 46=true
 ·rw [if_pos c3] at h;cases h
  rw [NumTo_one];simp
 rw [if_neg c3] at h
 cases h1:byteBut false s x.i with
 | error f=>simp [h1] at h
 | ok v=>
  obtain⟨b,j⟩:=v
  simp [h1] at h;obtain⟨rfl,rfl⟩:=h
  rw [NumTo_one];simp
theorem part_numto {s:ByteArray} {d:Nat} {sub:At→Res (Tr×At)} (hs:NF sub) {x:At} {t:Tr} {y:At} (h:part sub s d x=.ok (t,y)) (h0:0≤x.t):NumTo x.t [t]:=by
 unfold part at h
 cases h1:atom sub s d x with
 | error f=>simp [h1] at h
 | ok v=>
  obtain⟨⟨a',ks'⟩,z⟩:=v
  have g:=atom_numto hs h1 h0
  cases h2:count s z.i with
  | error f=>simp [h1,h2] at h
  | ok v=>
   obtain⟨m,n,j⟩:=v
   simp [h1,h2] at h;obtain⟨rfl,rfl⟩:=h
   rw [NumTo_one] at g ⊢
   exact g
theorem parts_numto {s:ByteArray} {d:Nat} {sub:At→Res (Tr×At)} (ht:TF sub) (hs:NF sub):∀ {n:Nat} {l:List Tr} {x:At} {l':List Tr} {y:At} (b:Int),parts sub s d n l x=.ok (l',y)→0≤x.t→b+tolds l=x.t→NumTo b l→NumTo b l'
 | 0,_,_,_,_,_,h,_,_,_=>by cases h
 | n+1,l,x,l',y,b,h,h0,hb,hl=>by
  unfold parts at h
  split at h
  ·cases h;exact hl
  ·cases h1:part sub s d x with
   | error f=>simp [h1] at h
   | ok v=>
    obtain⟨t',z⟩:=v
    have g:=part_told ht h1 h0
    have g2:=tolds_ge [t']
    have g3:=part_numto hs h1 h0
    simp only [h1] at h
    exact parts_numto ht hs b h (by omega) (by rw [tolds_append];omega) (NumTo_append l [t'] b hl (by rw [hb];exact g3))
theorem row_numto {s:ByteArray} {d:Nat} {sub:At→Res (Tr×At)} (ht:TF sub) (hs:NF sub):NF (row sub s d):=by
 intro x t y h h0
 unfold row at h
 cases h1:parts sub s d (s.size+1) [] x with
 | error f=>simp [h1] at h
 | ok v=>
  obtain⟨l,z⟩:=v
  simp [h1] at h;obtain⟨rfl,rfl⟩:=h
  have a:=parts_numto ht hs x.t h1 h0 (by rw [tolds_nil,Int.add_zero]) (NumTo_nil _)
  refine (NumTo_one _ _ _).mpr ⟨by simp,fun _=>?_⟩
  unfold told1
  rw [if_neg (by simp),Int.add_zero];exact a
theorem rows_numto {s:ByteArray} {d:Nat} {sub:At→Res (Tr×At)} (ht:TF sub) (hs:NF sub):∀ {n:Nat} {l:List Tr} {x:At} {l':List Tr} {y:At} (b:Int),rows sub s d n l x=.ok (l',y)→0≤x.t→b+tolds l=x.t→NumTo b l→NumTo b l'
 | 0,_,_,_,_,_,h,_,_,_=>by cases h
 | n+1,l,x,l',y,b,h,h0,hb,hl=>by
  unfold rows at h
  cases h1:row sub s d x with
  | error f=>simp [h1] at h
  | ok v=>
   obtain⟨t',z⟩:=v
   have m:=row_told ht x t' z h1 h0
   have g2:=tolds_ge [t']
   have g3:=row_numto ht hs x t' z h1 h0
   have ha:=NumTo_append l [t'] b hl (by rw [hb];exact g3)
   simp only [h1] at h
   split at h
   ·exact rows_numto ht hs b h (by show 0≤z.t;omega) (by rw [tolds_append];show b+_=z.t;omega) ha
   ·cases h;exact ha
theorem choice_numto (s:ByteArray):∀ k,NF (choice s k)
 | 0=>by intro x t y h;cases h
 | k+1=>by
  intro x t y h h0
  unfold choice at h
  cases h1:rows (choice s k) s (8 - k) (s.size+1) [] x with
  | error f=>simp [h1] at h
  | ok v=>
   obtain⟨l,z⟩:=v
   simp [h1] at h;obtain⟨rfl,rfl⟩:=h
   have a:=rows_numto (choice_told s k) (choice_numto s k) x.t h1 h0 (by rw [tolds_nil,Int.add_zero]) (NumTo_nil _)
   refine (NumTo_one _ _ _).mpr ⟨by simp,fun _=>?_⟩
   unfold told1
   rw [if_neg (by simp),Int.add_zero];exact a
theorem read_numto {s:ByteArray} {t:Tr} {n:Int} (h:read s=.ok (t,n)):NumTo 0 [t]:=by
 unfold read at h
 split at h
 ·cases h
 ·cases h1:choice s 9 ⟨0,0⟩ with
  | error f=>simp [h1] at h
  | ok v=>
   obtain⟨t',y⟩:=v
   simp only [h1] at h
   split at h
   ·cases h
   ·split at h
    ·cases h
    ·cases h
     exact choice_numto s 9 _ _ _ h1 (by simp)
theorem open1_ns (a:Lab) (c:Cp):(open1 a c).ns=c.ns:=by unfold open1;split<;>rfl
theorem bare_got {s:ByteArray} {a:Lab} {ks:List Tr} {c:Cp} {E E1:Nat→Sem} (ha:CanL a) (h3:a.kind=3→ks.length=1) (h4:a.kind=4→ks≠[]) (hn:a.kind=3→a.told=true→(a.num:Int)=c.told+1) (h:Means s c.ns E)
  (old:∀ q,q < c.ns.length→E1 q=E q) (mean:2 < a.kind→Means s (comps ks (open1 a c)).1.ns E1) (len:c.ns.length≤(comps ks (open1 a c)).1.ns.length) (idx:Idx E1 (comps ks (open1 a c)).1.ns.length (comps ks (open1 a c)).2 (sems s ks)):∃ E2,Got s c E (bareEnd a c (comps ks (open1 a c))) (bareSem s a (sems s ks)) E2:=by
 unfold bareEnd bareSem
 by_cases k2:a.kind≤2
 ·rw [if_pos k2,if_pos k2]
  exact⟨_,Got.add h (Or.inr (Or.inl ⟨rfl,by rw [upE_at];exact fun i j _=>⟨rfl,fun _=>rfl⟩⟩))⟩
 ·rw [if_neg k2,if_neg k2]
  replace mean:=mean (by omega)
  generalize hX:comps ks (open1 a c)=X at *
  obtain⟨c2,L⟩:=X
  simp only at mean len idx ⊢
  by_cases k3:a.kind=3
  ·rw [if_pos k3,if_pos k3]
   obtain⟨t,rfl⟩:∃ t,ks=[t]:=by
    have:=h3 k3
    match ks,this with
    | [t],_=>exact⟨t,rfl⟩
   rw [sems_cons,sems_nil] at idx ⊢
   match L,idx with
   | [x],⟨⟨k,e1,e2,e3⟩,_⟩=>
    have en:numOf a c=(a.num:Int):=by
     unfold numOf
     by_cases ht:a.told=true
     ·rw [if_pos ht,hn k3 ht]
     ·rw [if_neg ht]
      have h9:=ha.told
      have:a.num=0:=by
       rcases Nat.eq_zero_or_pos a.num with q|q
       ·exact q
       ·exfalso;apply ht;rw [h9];simp;omega
      rw [this];rfl
    have g:Got s c2 E1 (c2.add ⟨4,(k:Int),0,fun _=>false,(a.num:Int)⟩) ⟨choiceM [sem s t],fun i j=>(if a.told then [(a.num,i,j)] else [])++choiceG [sem s t] i j⟩ _:=Got.add mean (Or.inr (Or.inr (Or.inr (Or.inr (Or.inl ⟨rfl,k,a.num,rfl,rfl,e2,by
     rw [upE_at,upE_lt _ _ e2]
     refine GrpS.congr (A:=sem s t) ?_ e3
     intro i j hij
     have em:choiceM [sem s t] i j=(sem s t).m i j:=by simp [choiceM]
     refine⟨em,fun ht=>?_⟩
     have hm:(sem s t).m i j=true:=by rw [← em];exact ht
     show (if a.told then [(a.num,i,j)] else [])++choiceG [sem s t] i j=_
     rw [choiceG,hm,ha.told]
     by_cases hz:a.num=0
     ·simp [hz]
     ·have:0 < a.num:=by omega
      simp [hz,this]⟩)))))
    refine⟨upE E1 c2.ns.length ⟨choiceM [sem s t],fun i j=>(if a.told then [(a.num,i,j)] else [])++choiceG [sem s t] i j⟩,?_⟩
    show Got s c E (c2.add ⟨4,x,0,fun _=>false,numOf a c⟩) _ _
    rw [en,e1]
    exact⟨fun q hq=>(g.old q (Nat.lt_of_lt_of_le hq len)).trans (old q hq),g.mean,Nat.le_trans len g.len,g.idx⟩
  ·rw [if_neg k3,if_neg k3]
   have ridx:=idx.reverse
   by_cases k4:a.kind=4
   ·rw [if_pos k4,if_pos k4]
    have hne:=h4 k4
    have hsn:(sems s ks).reverse≠[]:=by
     match ks,hne with
     | t::r,_=>rw [sems_cons];simp
    generalize hR:(sems s ks).reverse=R at *
    have hRR:sems s ks=R.reverse:=by rw [← hR,List.reverse_reverse]
    cases hLr:L.reverse with
    | nil=>
     rw [hLr] at ridx
     cases R with
     | nil=>exact absurd rfl hsn
     | cons S Ss=>exact ridx.elim
    | cons x xs=>
     rw [hLr] at ridx
     cases R with
     | nil=>exact ridx.elim
     | cons S Ss=>
      obtain⟨⟨k,e1,e2,e3⟩,e4⟩:=ridx
      obtain⟨E2,g⟩:=pick_got (s:=s) xs Ss [S] (c2,x) E1 e4 mean ⟨k,e1,e2,choiceS_one e3⟩
      refine⟨E2,?_⟩
      rw [hRR,List.reverse_cons]
      show Got s c E (pick xs (if (-1:Int) < 0 then (c2,x) else _)) _ _
      rw [if_pos (by decide)]
      exact⟨fun q hq=>(g.old q (Nat.lt_of_lt_of_le hq len)).trans (old q hq),g.mean,Nat.le_trans len g.len,g.idx⟩
   ·rw [if_neg k4,if_neg k4]
    have g0:=add_nil (s:=s) (c:=c2) (E:=E1) mean rowS_nil
    obtain⟨E2,g⟩:=chain_got (s:=s) L.reverse (sems s ks).reverse [] (c2.add (nd 0 0 0)) _ (ridx.keep g0.old g0.len) g0.mean g0.idx
    rw [List.reverse_reverse,List.append_nil] at g
    have g2:=g0.trans g
    exact⟨E2,fun q hq=>(g2.old q (Nat.lt_of_lt_of_le hq len)).trans (old q hq),g2.mean,Nat.le_trans len g2.len,g2.idx⟩
theorem comps_got (s:ByteArray):∀ (l:List Tr) (c:Cp) (E:Nat→Sem),Can l→NumTo c.told l→Means s c.ns E→∃ E',(∀ q,q < c.ns.length→E' q=E q)∧Means s (comps l c).1.ns E'∧c.ns.length≤(comps l c).1.ns.length∧Idx E' (comps l c).1.ns.length (comps l c).2 (sems s l)
 | [],c,E,_,_,h=>by rw [comps_nil,sems_nil];exact⟨E,fun _ _=>rfl,h,Nat.le_refl _,trivial⟩
 | ⟨a,ks⟩::r,c,E,hc,hn,h=>by
  rw [Can_cons] at hc
  rw [NumTo_cons] at hn
  obtain⟨⟨c1,c2,c3,c4⟩,c5,c6⟩:=hc
  have key:∃ E1,(∀ q,q < c.ns.length→E1 q=E q)∧(2 < a.kind→Means s (comps ks (open1 a c)).1.ns E1)∧c.ns.length≤(comps ks (open1 a c)).1.ns.length∧Idx E1 (comps ks (open1 a c)).1.ns.length (comps ks (open1 a c)).2 (sems s ks):=by
   by_cases k2:a.kind≤2
   ·have:ks=[]:=c2 k2
    subst this
    rw [comps_nil,sems_nil]
    exact⟨E,fun _ _=>rfl,fun q=>by omega,by rw [open1_ns];exact Nat.le_refl _,trivial⟩
   ·obtain⟨E1,e1,e2,e3,e4⟩:=comps_got s ks (open1 a c) E c5 (by rw [open1_eq];exact hn.2.1 (by omega)) (by rw [open1_ns];exact h)
    rw [open1_ns] at e1 e3
    exact⟨E1,e1,fun _=>e2,e3,e4⟩
  obtain⟨E1,e1,e2,e3,e4⟩:=key
  obtain⟨E2,g2⟩:=bare_got (s:=s) c1 c3 c4 hn.1 h e1 e2 e3 e4
  obtain⟨E3,g3⟩:=wrap_got c1 g2
  have g3':Got s c E (comp ⟨a,ks⟩ c) (sem s ⟨a,ks⟩) E3:=g3
  have ht:=comp_told_eq ⟨a,ks⟩ c
  obtain⟨E4,f1,f2,f3,f4⟩:=comps_got s r (comp ⟨a,ks⟩ c).1 E3 c6 (by rw [ht];exact hn.2.2) g3'.mean
  rw [comps_cons,sems_cons]
  obtain⟨k,i1,i2,i3⟩:=g3'.idx
  refine⟨E4,fun q hq=>(f1 q (Nat.lt_of_lt_of_le hq g3'.len)).trans (g3'.old q hq),f2,Nat.le_trans g3'.len f3,⟨k,i1,Nat.lt_of_lt_of_le i2 f3,?_⟩,f4⟩
  rw [f1 k i2];exact i3
theorem read_means {s:ByteArray} {t:Tr} {n:Int} (h:read s=.ok (t,n)) (x:ByteArray):∃ (E:Nat→Sem) (k:Nat),Means x (comp t ⟨[],0⟩).1.ns E∧(comp t ⟨[],0⟩).2=k∧k < (comp t ⟨[],0⟩).1.ns.length∧SemEq (E k) (sem x t):=by
 obtain⟨E,_,e2,_,e4⟩:=comps_got x [t] ⟨[],0⟩ (fun _=>⟨fun _ _=>false,fun _ _=>[]⟩) (read_can h) (read_numto h) (fun k n hk=>by simp at hk)
 rw [comps_cons,comps_nil,sems_cons,sems_nil] at *
 obtain⟨⟨k,i1,i2,i3⟩,_⟩:=e4
 exact⟨E,k,e2,i1,i2,i3⟩
end Sp
end Go.Proofs.YtcpfpnjkfahjcaaGreat
/- No node's number is greater than how many are told: no program is named here. -/
namespace Go.Proofs.YtcpfpnjkfahjcaaGreat
namespace Sp
def NumLe (c:Cp):Prop:=0≤c.told∧∀ n∈c.ns,n.num≤c.told
theorem NumLe.add {c:Cp} (h:NumLe c) {n:Nd} (hn:n.num≤c.told):NumLe (c.add n).1:=⟨h.1,fun m hm=>by
 have hm':m∈c.ns∨m=n:=by simpa [Cp.add] using hm
 rcases hm' with q|q
 ·exact h.2 m q
 ·rw [q];exact hn⟩
theorem NumLe.nd {c:Cp} (h:NumLe c) (k a b:Int):NumLe (c.add (nd k a b)).1:=h.add h.1
theorem NumLe.reps {k a:Int}:∀ (n:Nat) (x:Cp×Int),NumLe x.1→NumLe (reps k a n x).1
 | 0,_,h=>h
 | n+1,x,h=>NumLe.reps n _ (h.nd k a x.2)
theorem NumLe.wrap (a:Lab) (x:Cp×Int) (h:NumLe x.1):NumLe (wrap a x).1:=by
 unfold Sp.wrap
 split
 ·exact h
 ·refine NumLe.reps _ _ ?_
  unfold wrap0
  split
  ·exact h.nd _ _ _
  ·exact NumLe.reps _ _ (h.nd _ _ _)
theorem NumLe.pick:∀ (l:List Int) (x:Cp×Int),NumLe x.1→NumLe (pick l x).1
 | [],_,h=>h
 | k::r,x,h=>by
  rw [Sp.pick]
  refine NumLe.pick r _ ?_
  split
  ·exact h
  ·exact h.nd _ _ _
theorem NumLe.chain:∀ (l:List Int) (x:Cp×Int),NumLe x.1→NumLe (chain l x).1
 | [],_,h=>h
 | k::r,x,h=>NumLe.chain r _ (h.nd _ _ _)
theorem NumLe.open1 {a:Lab} {c:Cp} (h:NumLe c):NumLe (open1 a c):=by
 unfold Sp.open1
 split
 ·exact⟨by have:=h.1;show 0≤c.told+1;omega,fun n hn=>by have:=h.2 n hn;show n.num≤c.told+1;omega⟩
 ·exact h
theorem NumLe.comps:∀ (l:List Tr) (c:Cp),NumLe c→NumLe (comps l c).1
 | [],c,h=>by rw [comps_nil];exact h
 | ⟨a,ks⟩::r,c,h=>by
  rw [comps_cons]
  refine NumLe.comps r _ ?_
  show NumLe (Sp.wrap a (bareEnd a c (Sp.comps ks (Sp.open1 a c)))).1
  refine NumLe.wrap a _ ?_
  have hk:=NumLe.comps ks (Sp.open1 a c) h.open1
  have ht:=comps_told_eq ks (Sp.open1 a c)
  rw [open1_eq] at ht
  have hg:=tolds_ge ks
  unfold bareEnd
  split
  ·exact h.add h.1
  ·split
   ·rename_i h3
    refine hk.add ?_
    show numOf a c≤_
    unfold numOf
    split
    ·rename_i h4
     have:told1 a=1:=by unfold told1;rw [if_pos ⟨h3,h4⟩]
     omega
    ·exact hk.1
   ·split
    ·exact NumLe.pick _ _ hk
    ·exact NumLe.chain _ _ (hk.nd _ _ _)
theorem read_numle {s:ByteArray} {t:Tr} {n:Int} (h:read s=.ok (t,n)):∀ m∈(comp t ⟨[],0⟩).1.ns,m.num≤n:=by
 have:=NumLe.comps [t] ⟨[],0⟩ ⟨Int.le_refl _,fun m hm=>by cases hm⟩
 rw [comps_cons,comps_nil] at this
 intro m hm
 have h2:=this.2 m hm
 have h3:=read_told h
 show m.num≤n
 rw [← h3];exact h2
end Sp
end Go.Proofs.YtcpfpnjkfahjcaaGreat
