import Derived.Test.YtcpfpnjkfahjcaaGreatH26
set_option linter.unusedSimpArgs false
set_option linter.unusedVariables false
namespace Go.Proofs.YtcpfpnjkfahjcaaGreat
open Go.RowKit
def CountOut (r p:Nat) (s:ByteArray) (x:RS) (a:PS) (w:World) (res:Sp.Res (Int×Int×Nat)) (k:Ending) (w':World):Prop:=
 k=.returned (.tuple #[])∧Upd [r,p] w w'∧match res with
 | .ok (m,n,j)=>RdAt w' r s { x with i:=j }∧PtAt w' p { a with min:=m,max:=n }
 | .error (e,b)=>e≠0∧∃ i' mn mx,RdAt w' r s { x with i:=i',e:=e,a:=b }∧PtAt w' p { a with min:=mn,max:=mx }
theorem CountOut.mk_ok {r p:Nat} {s:ByteArray} {x:RS} {a:PS} {w w':World} {res:Sp.Res (Int×Int×Nat)} {k:Ending} (m n:Int) (j:Nat) (h:res=.ok (m,n,j)) (hk:k=.returned (.tuple #[])) (u:Upd [r,p] w w') (hr:RdAt w' r s { x with i:=j }) (hp:PtAt w' p { a with min:=m,max:=n }):CountOut r p s x a w res k w':=by
 subst h;exact⟨hk,u,hr,hp⟩
theorem CountOut.mk_error {r p:Nat} {s:ByteArray} {x:RS} {a:PS} {w w':World} {res:Sp.Res (Int×Int×Nat)} {k:Ending} (e b:Int) (i':Nat) (mn mx:Int) (h:res=.error (e,b)) (he:e≠0) (hk:k=.returned (.tuple #[])) (u:Upd [r,p] w w') (hr:RdAt w' r s { x with i:=i',e:=e,a:=b }) (hp:PtAt w' p { a with min:=mn,max:=mx }):CountOut r p s x a w res k w':=by
 subst h;exact⟨hk,u,he,i',mn,mx,hr,hp⟩
theorem isB_err {s:ByteArray} {x:RS} {c:Int} (h:x.e≠0):isB s x c=false:=by simp [isB,h]
theorem isB_ok {s:ByteArray} {x:RS} {c:Int} (h:x.e=0):isB s x c=Sp.isAt s x.i c:=by simp [isB,h]
set_option maxHeartbeats 400000 in
theorem braces_no (r p:Nat) (s:ByteArray) (x:RS) (a:PS) (w:World) (h:RdAt w r s x) (hp:PtAt w p a) (hrp:r≠p) (hs:s.size≤200) (he:x.e=0) (e1 a1:Int) (hn:Sp.number 0 s x.i=.error (e1,a1)) :
  Calls Tryz.prog 112 #[.pointer (some ⟨r,0,none⟩),.pointer (some ⟨p,0,none⟩)] w (CountOut r p s x a w (Sp.bounds s x.i)):=by
 obtain⟨c0,c1,c2,c3,c4,c5,fz⟩:=h.facts
 have hh:Hid (RdAt w r s x):=h
 have hpp:Hid (PtAt w p a):=hp
 have HE:Hid (x.e=0):=he
 have HN:Hid (Sp.number 0 s x.i=.error (e1,a1)):=hn
 have HR:Hid (Sp.bounds s x.i=.error (e1,a1)):=by show _=_;unfold Sp.bounds;rw [hn]
 clear h hp he hn
 go_enter Tryz.func112,Tryz.ntmps112
 go_wp2_with fail
 refine (number_any r s x _ (by exact hh.out) hs HE.out).mono ?_
 rw [HN.out]
 rintro e w1 ⟨hu,he1,v,i',h0,h1,rfl,hf⟩
 have HU:Hid (Upd [r] w w1):=hu
 have hf1:Hid (RdAt w1 r s ⟨i',e1,a1,x.d,x.t⟩):=hf
 have hp1:Hid (PtAt w1 p a):=hpp.out.upd hu (by simpa using hrp.symm)
 obtain⟨d0,d1,d2,d3,d4,d5,dz⟩:=hf.facts
 obtain⟨p0,p1,p258,p259,p260,p261,p262,p263,pz⟩:=hp1.out.facts
 have HE1:Hid (e1≠0):=he1
 clear hu hf he1 c0 c1 c2 c3 c4 c5 fz
 go_wp2_with fail
 refine (is_any r s ⟨i',e1,a1,x.d,x.t⟩ _ _ (by exact (hf1.out.other hrp 262 _).other hrp 263 _) hs).mono ?_
 rw [isB_err (by exact HE1.out)]
 rintro e w2 ⟨rfl,hu2,hf2⟩
 have hp2:Hid (PtAt w2 p { a with min:=v,max:=v }):=((hp1.out.set262 v).set263 v).upd hu2 (by simpa using hrp.symm)
 have HU2:Hid (Upd [r,p] w w2):=(by refine Upd.trans ?_ hu2.one;refine Upd.setCell (Upd.setCell HU.out.one (by simp) _) (by simp) _:Upd [r,p] w w2)
 have hf2':Hid (RdAt w2 r s ⟨i',e1,a1,x.d,x.t⟩):=hf2
 clear hu2 hf2
 go_wp2_with fail
 refine (is_any r s ⟨i',e1,a1,x.d,x.t⟩ _ _ (by exact hf2'.out) hs).mono ?_
 rw [isB_err (by exact HE1.out)]
 rintro e w3 ⟨rfl,hu3,hf3⟩
 have hp3:Hid (PtAt w3 p { a with min:=v,max:=v }):=hp2.out.upd hu3 (by simpa using hrp.symm)
 have HU3:Hid (Upd [r,p] w w3):=HU2.out.trans hu3.one
 have hf3':Hid (RdAt w3 r s ⟨i',e1,a1,x.d,x.t⟩):=hf3
 obtain⟨b0,b1,b2,b3,b4,b5,bz⟩:=hf3.facts
 clear hu3 hf3
 go_wp2_with fail
 refine (fail_any r s ⟨i',e1,a1,x.d,x.t⟩ _ _ _ (by exact hf3'.out)).mono ?_
 rw [RS.fail_no (by exact HE1.out)]
 rintro e w4 ⟨rfl,hu4,hf4⟩
 go_wp2_with fail
 go_end0
 exact CountOut.mk_error _ _ i' v v HR.out HE1.out rfl (HU3.out.trans hu4.one) hf4 (hp3.out.upd hu4 (by simpa using hrp.symm))
theorem digit_not {s:ByteArray} {i:Nat} {c:Int} (h:Sp.isAt s i c=true) (hc:c < 48∨57 < c):Sp.digitAt s i=false:=by
 simp [Sp.isAt] at h;simp [Sp.digitAt,h];omega
theorem bounds_A1 {s:ByteArray} {i j:Nat} {m:Int} (hn:Sp.number 0 s i=.ok (m,j)) (h1:Sp.isAt s j 44=true) (h2:Sp.isAt s (j+1) 125=true):Sp.bounds s i=.ok (m,-1,j+1+1):=by
 unfold Sp.bounds;rw [hn];simp [h1,digit_not h2 (by omega),Sp.need,h2]
theorem bounds_B1 {s:ByteArray} {i j:Nat} {m:Int} (hn:Sp.number 0 s i=.ok (m,j)) (h1:Sp.isAt s j 44=false) (h2:Sp.isAt s j 125=true):Sp.bounds s i=.ok (m,m,j+1):=by
 unfold Sp.bounds;rw [hn];simp [h1,Sp.need,h2]
theorem bounds_B2 {s:ByteArray} {i j:Nat} {m:Int} (hn:Sp.number 0 s i=.ok (m,j)) (h1:Sp.isAt s j 44=false) (h2:Sp.isAt s j 125=false):Sp.bounds s i=.error (3,j):=by
 unfold Sp.bounds;rw [hn];simp [h1,Sp.need,h2]
theorem bounds_A2 {s:ByteArray} {i j:Nat} {m:Int} {f:Sp.Fault} (hn:Sp.number 0 s i=.ok (m,j)) (h1:Sp.isAt s j 44=true) (h2:Sp.isAt s (j+1) 125=false) (hk:Sp.number 0 s (j+1)=.error f):Sp.bounds s i=.error f:=by
 unfold Sp.bounds;rw [hn];simp only [h1]
 unfold Sp.number at hk ⊢
 by_cases hd:Sp.digitAt s (j+1)=true
 ·rw [hd] at hk ⊢;simp at hk ⊢
  by_cases q:20 < (Sp.digits s (j+1)).1∨(Sp.digits s (j+1)).1 < 0
  ·rw [if_pos q] at hk;rw [if_pos (Or.inl (by rcases q with q|q;exact q;simp [Sp.digitAt] at hd;unfold Sp.digits at q;split at q<;>simp at q<;>(try simp [Sp.digitAt] at *)<;>omega))];cases hk;rfl
  ·rw [if_neg q] at hk;cases hk
 ·simp [hd] at hk;simp [hd,Sp.need,h2,← hk]
theorem digitAt_of_ok {m:Int} {s:ByteArray} {i:Nat} {v:Int×Nat} (h:Sp.number m s i=.ok v):Sp.digitAt s i=true∧Sp.digits s i=v:=by
 unfold Sp.number at h
 by_cases hd:Sp.digitAt s i=true
 ·simp only [hd] at h;simp at h;split at h<;>cases h;exact⟨hd,rfl⟩
 ·simp [hd] at h
theorem bounds_A3 {s:ByteArray} {i j k:Nat} {m n:Int} (hn:Sp.number 0 s i=.ok (m,j)) (h1:Sp.isAt s j 44=true) (hk:Sp.number 0 s (j+1)=.ok (n,k)) (hl:n < m):Sp.bounds s i=.error (4,(j+1:Nat)):=by
 obtain⟨hd,hv⟩:=digitAt_of_ok hk
 unfold Sp.bounds;rw [hn];simp only [h1,hd];unfold Sp.number;rw [hd,hv];simp [hl]
theorem bounds_A4 {s:ByteArray} {i j k:Nat} {m n:Int} (hn:Sp.number 0 s i=.ok (m,j)) (h1:Sp.isAt s j 44=true) (hk:Sp.number 0 s (j+1)=.ok (n,k)) (hl:¬ n < m) (hl':n≤20):Sp.bounds s i=if Sp.isAt s k 125 then .ok (m,n,k+1) else .error (3,k):=by
 obtain⟨hd,hv⟩:=digitAt_of_ok hk
 unfold Sp.bounds;rw [hn];simp only [h1,hd];unfold Sp.number;rw [hd,hv]
 have hl3:¬ (20 < n∨n < m):=by omega
 cases hc:Sp.isAt s k 125<;>simp [hl3,Sp.need,hc]
set_option maxHeartbeats 400000 in
theorem braces_A1 (r p:Nat) (s:ByteArray) (x:RS) (a:PS) (w:World) (h:RdAt w r s x) (hp:PtAt w p a) (hrp:r≠p) (hs:s.size≤200) (he:x.e=0) (m:Int) (j:Nat) (hn:Sp.number 0 s x.i=.ok (m,j)) (h1:Sp.isAt s j 44=true) (h2:Sp.isAt s (j+1) 125=true) :
  Calls Tryz.prog 112 #[.pointer (some ⟨r,0,none⟩),.pointer (some ⟨p,0,none⟩)] w (CountOut r p s x a w (Sp.bounds s x.i)):=by
 obtain⟨c0,c1,c2,c3,c4,c5,fz⟩:=h.facts
 have hh:Hid (RdAt w r s x):=h
 have hpp:Hid (PtAt w p a):=hp
 have HE:Hid (x.e=0):=he
 have HN:Hid (Sp.number 0 s x.i=.ok (m,j)):=hn
 have HR:Hid (Sp.bounds s x.i=.ok (m,-1,j+1+1)):=bounds_A1 hn h1 h2
 have H1:Hid (Sp.isAt s (j) 44=true):=h1
 clear h1
 have H2:Hid (Sp.isAt s (j+1) 125=true):=h2
 clear h2
 clear h hp he hn
 go_enter Tryz.func112,Tryz.ntmps112
 go_wp2_with fail
 refine (number_any r s x _ (by exact hh.out) hs HE.out).mono ?_
 rw [HN.out]
 rintro e w1 ⟨hu,rfl,hm0,hm1,hf⟩
 have HU:Hid (Upd [r] w w1):=hu
 have hf1:Hid (RdAt w1 r s ⟨j,x.e,x.a,x.d,x.t⟩):=hf
 have hp1:Hid (PtAt w1 p a):=hpp.out.upd hu (by simpa using hrp.symm)
 obtain⟨d0,d1,d2,d3,d4,d5,dz⟩:=hf.facts
 obtain⟨p0,p1,p258,p259,p260,p261,p262,p263,pz⟩:=hp1.out.facts
 clear hu hf c0 c1 c2 c3 c4 c5 fz
 go_wp2_with fail
 refine (is_any r s ⟨j,x.e,x.a,x.d,x.t⟩ _ _ (by exact (hf1.out.other hrp 262 _).other hrp 263 _) hs).mono ?_
 rw [isB_ok (by exact HE.out),show Sp.isAt s _ 44=true from H1.out]
 rintro e w2 ⟨rfl,hu2,hf2⟩
 have hp2:Hid (PtAt w2 p { a with min:=m,max:=m }):=((hp1.out.set262 m).set263 m).upd hu2 (by simpa using hrp.symm)
 have HU2:Hid (Upd [r,p] w w2):=(by refine Upd.trans ?_ hu2.one;refine Upd.setCell (Upd.setCell HU.out.one (by simp) _) (by simp) _:Upd [r,p] w w2)
 have hf2':Hid (RdAt w2 r s ⟨j+1,x.e,x.a,x.d,x.t⟩):=hf2
 clear hu2 hf2 d0 d1 d2 d3 d4 d5 dz p0 p1 p258 p259 p260 p261 p262 p263 pz
 go_wp2_with fail
 refine (is_any r s ⟨j+1,x.e,x.a,x.d,x.t⟩ _ _ (by exact hf2'.out) hs).mono ?_
 rw [isB_ok (by exact HE.out),show Sp.isAt s _ 125=true from H2.out]
 rintro e w3 ⟨rfl,hu3,hf3⟩
 have hp3:Hid (PtAt w3 p { a with min:=m,max:=m }):=hp2.out.upd hu3 (by simpa using hrp.symm)
 have HU3:Hid (Upd [r,p] w w3):=HU2.out.trans hu3.one
 have hf3':Hid (RdAt w3 r s ⟨j+1+1,x.e,x.a,x.d,x.t⟩):=hf3
 obtain⟨b0,b1,b2,b3,b4,b5,bz⟩:=hf3.facts
 obtain⟨q0,q1,q258,q259,q260,q261,q262,q263,qz⟩:=hp3.out.facts
 clear hu3 hf3
 go_wp2_with fail
 go_end0
 exact CountOut.mk_ok _ _ _ HR.out rfl (HU3.out.setCell (by simp) _) (hf3'.out.other hrp 263 _) (hp3.out.set263 (-1))
set_option maxHeartbeats 400000 in
theorem braces_B1 (r p:Nat) (s:ByteArray) (x:RS) (a:PS) (w:World) (h:RdAt w r s x) (hp:PtAt w p a) (hrp:r≠p) (hs:s.size≤200) (he:x.e=0) (m:Int) (j:Nat) (hn:Sp.number 0 s x.i=.ok (m,j)) (h1:Sp.isAt s j 44=false) (h2:Sp.isAt s j 125=true) :
  Calls Tryz.prog 112 #[.pointer (some ⟨r,0,none⟩),.pointer (some ⟨p,0,none⟩)] w (CountOut r p s x a w (Sp.bounds s x.i)):=by
 obtain⟨c0,c1,c2,c3,c4,c5,fz⟩:=h.facts
 have hh:Hid (RdAt w r s x):=h
 have hpp:Hid (PtAt w p a):=hp
 have HE:Hid (x.e=0):=he
 have HN:Hid (Sp.number 0 s x.i=.ok (m,j)):=hn
 have HR:Hid (Sp.bounds s x.i=.ok (m,m,j+1)):=bounds_B1 hn h1 h2
 have H1:Hid (Sp.isAt s (j) 44=false):=h1
 clear h1
 have H2:Hid (Sp.isAt s (j) 125=true):=h2
 clear h2
 clear h hp he hn
 go_enter Tryz.func112,Tryz.ntmps112
 go_wp2_with fail
 refine (number_any r s x _ (by exact hh.out) hs HE.out).mono ?_
 rw [HN.out]
 rintro e w1 ⟨hu,rfl,hm0,hm1,hf⟩
 have HU:Hid (Upd [r] w w1):=hu
 have hf1:Hid (RdAt w1 r s ⟨j,x.e,x.a,x.d,x.t⟩):=hf
 have hp1:Hid (PtAt w1 p a):=hpp.out.upd hu (by simpa using hrp.symm)
 obtain⟨d0,d1,d2,d3,d4,d5,dz⟩:=hf.facts
 obtain⟨p0,p1,p258,p259,p260,p261,p262,p263,pz⟩:=hp1.out.facts
 clear hu hf c0 c1 c2 c3 c4 c5 fz
 go_wp2_with fail
 refine (is_any r s ⟨j,x.e,x.a,x.d,x.t⟩ _ _ (by exact (hf1.out.other hrp 262 _).other hrp 263 _) hs).mono ?_
 rw [isB_ok (by exact HE.out),show Sp.isAt s _ 44=false from H1.out]
 rintro e w2 ⟨rfl,hu2,hf2⟩
 have hp2:Hid (PtAt w2 p { a with min:=m,max:=m }):=((hp1.out.set262 m).set263 m).upd hu2 (by simpa using hrp.symm)
 have HU2:Hid (Upd [r,p] w w2):=(by refine Upd.trans ?_ hu2.one;refine Upd.setCell (Upd.setCell HU.out.one (by simp) _) (by simp) _:Upd [r,p] w w2)
 have hf2':Hid (RdAt w2 r s ⟨j,x.e,x.a,x.d,x.t⟩):=hf2
 clear hu2 hf2 d0 d1 d2 d3 d4 d5 dz p0 p1 p258 p259 p260 p261 p262 p263 pz
 go_wp2_with fail
 refine (is_any r s ⟨j,x.e,x.a,x.d,x.t⟩ _ _ (by exact hf2'.out) hs).mono ?_
 rw [isB_ok (by exact HE.out),show Sp.isAt s _ 125=true from H2.out]
 rintro e w3 ⟨rfl,hu3,hf3⟩
 have hp3:Hid (PtAt w3 p { a with min:=m,max:=m }):=hp2.out.upd hu3 (by simpa using hrp.symm)
 have HU3:Hid (Upd [r,p] w w3):=HU2.out.trans hu3.one
 have hf3':Hid (RdAt w3 r s ⟨j+1,x.e,x.a,x.d,x.t⟩):=hf3
 obtain⟨b0,b1,b2,b3,b4,b5,bz⟩:=hf3.facts
 obtain⟨q0,q1,q258,q259,q260,q261,q262,q263,qz⟩:=hp3.out.facts
 clear hu3 hf3
 go_wp2_with fail
 go_end0
 exact CountOut.mk_ok _ _ _ HR.out rfl HU3.out hf3'.out hp3.out
set_option maxHeartbeats 400000 in
theorem braces_B2 (r p:Nat) (s:ByteArray) (x:RS) (a:PS) (w:World) (h:RdAt w r s x) (hp:PtAt w p a) (hrp:r≠p) (hs:s.size≤200) (he:x.e=0) (m:Int) (j:Nat) (hn:Sp.number 0 s x.i=.ok (m,j)) (h1:Sp.isAt s j 44=false) (h2:Sp.isAt s j 125=false) :
  Calls Tryz.prog 112 #[.pointer (some ⟨r,0,none⟩),.pointer (some ⟨p,0,none⟩)] w (CountOut r p s x a w (Sp.bounds s x.i)):=by
 obtain⟨c0,c1,c2,c3,c4,c5,fz⟩:=h.facts
 have hh:Hid (RdAt w r s x):=h
 have hpp:Hid (PtAt w p a):=hp
 have HE:Hid (x.e=0):=he
 have HN:Hid (Sp.number 0 s x.i=.ok (m,j)):=hn
 have HR:Hid (Sp.bounds s x.i=.error (3,j)):=bounds_B2 hn h1 h2
 have H1:Hid (Sp.isAt s (j) 44=false):=h1
 clear h1
 have H2:Hid (Sp.isAt s (j) 125=false):=h2
 clear h2
 clear h hp he hn
 go_enter Tryz.func112,Tryz.ntmps112
 go_wp2_with fail
 refine (number_any r s x _ (by exact hh.out) hs HE.out).mono ?_
 rw [HN.out]
 rintro e w1 ⟨hu,rfl,hm0,hm1,hf⟩
 have HU:Hid (Upd [r] w w1):=hu
 have hf1:Hid (RdAt w1 r s ⟨j,x.e,x.a,x.d,x.t⟩):=hf
 have hp1:Hid (PtAt w1 p a):=hpp.out.upd hu (by simpa using hrp.symm)
 obtain⟨d0,d1,d2,d3,d4,d5,dz⟩:=hf.facts
 obtain⟨p0,p1,p258,p259,p260,p261,p262,p263,pz⟩:=hp1.out.facts
 clear hu hf c0 c1 c2 c3 c4 c5 fz
 go_wp2_with fail
 refine (is_any r s ⟨j,x.e,x.a,x.d,x.t⟩ _ _ (by exact (hf1.out.other hrp 262 _).other hrp 263 _) hs).mono ?_
 rw [isB_ok (by exact HE.out),show Sp.isAt s _ 44=false from H1.out]
 rintro e w2 ⟨rfl,hu2,hf2⟩
 have hp2:Hid (PtAt w2 p { a with min:=m,max:=m }):=((hp1.out.set262 m).set263 m).upd hu2 (by simpa using hrp.symm)
 have HU2:Hid (Upd [r,p] w w2):=(by refine Upd.trans ?_ hu2.one;refine Upd.setCell (Upd.setCell HU.out.one (by simp) _) (by simp) _:Upd [r,p] w w2)
 have hf2':Hid (RdAt w2 r s ⟨j,x.e,x.a,x.d,x.t⟩):=hf2
 clear hu2 hf2 d0 d1 d2 d3 d4 d5 dz p0 p1 p258 p259 p260 p261 p262 p263 pz
 go_wp2_with fail
 refine (is_any r s ⟨j,x.e,x.a,x.d,x.t⟩ _ _ (by exact hf2'.out) hs).mono ?_
 rw [isB_ok (by exact HE.out),show Sp.isAt s _ 125=false from H2.out]
 rintro e w3 ⟨rfl,hu3,hf3⟩
 have hp3:Hid (PtAt w3 p { a with min:=m,max:=m }):=hp2.out.upd hu3 (by simpa using hrp.symm)
 have HU3:Hid (Upd [r,p] w w3):=HU2.out.trans hu3.one
 have hf3':Hid (RdAt w3 r s ⟨j,x.e,x.a,x.d,x.t⟩):=hf3
 obtain⟨b0,b1,b2,b3,b4,b5,bz⟩:=hf3.facts
 obtain⟨q0,q1,q258,q259,q260,q261,q262,q263,qz⟩:=hp3.out.facts
 clear hu3 hf3
 go_wp2_with fail
 refine (fail_any r s ⟨j,x.e,x.a,x.d,x.t⟩ _ _ _ (by exact hf3'.out)).mono ?_
 rw [RS.fail_ok (by exact HE.out)]
 rintro e w4 ⟨rfl,hu4,hf4⟩
 go_wp2_with fail
 go_end0
 exact CountOut.mk_error _ _ j m m HR.out (by decide) rfl (HU3.out.trans hu4.one) hf4 (hp3.out.upd hu4 (by simpa using hrp.symm))
set_option maxHeartbeats 400000 in
theorem braces_A2 (r p:Nat) (s:ByteArray) (x:RS) (a:PS) (w:World) (h:RdAt w r s x) (hp:PtAt w p a) (hrp:r≠p) (hs:s.size≤200) (he:x.e=0) (m:Int) (j:Nat) (hn:Sp.number 0 s x.i=.ok (m,j)) (h1:Sp.isAt s j 44=true) (h2:Sp.isAt s (j+1) 125=false) (e1 a1:Int) (hk:Sp.number 0 s (j+1)=.error (e1,a1)) :
  Calls Tryz.prog 112 #[.pointer (some ⟨r,0,none⟩),.pointer (some ⟨p,0,none⟩)] w (CountOut r p s x a w (Sp.bounds s x.i)):=by
 obtain⟨c0,c1,c2,c3,c4,c5,fz⟩:=h.facts
 have hh:Hid (RdAt w r s x):=h
 have hpp:Hid (PtAt w p a):=hp
 have HE:Hid (x.e=0):=he
 have HN:Hid (Sp.number 0 s x.i=.ok (m,j)):=hn
 have HR:Hid (Sp.bounds s x.i=.error (e1,a1)):=bounds_A2 hn h1 h2 hk
 have H1:Hid (Sp.isAt s (j) 44=true):=h1
 clear h1
 have H2:Hid (Sp.isAt s (j+1) 125=false):=h2
 clear h2
 have HK:Hid (Sp.number 0 s (j+1)=.error (e1,a1)):=hk
 clear hk
 clear h hp he hn
 go_enter Tryz.func112,Tryz.ntmps112
 go_wp2_with fail
 refine (number_any r s x _ (by exact hh.out) hs HE.out).mono ?_
 rw [HN.out]
 rintro e w1 ⟨hu,rfl,hm0,hm1,hf⟩
 have HU:Hid (Upd [r] w w1):=hu
 have hf1:Hid (RdAt w1 r s ⟨j,x.e,x.a,x.d,x.t⟩):=hf
 have hp1:Hid (PtAt w1 p a):=hpp.out.upd hu (by simpa using hrp.symm)
 obtain⟨d0,d1,d2,d3,d4,d5,dz⟩:=hf.facts
 obtain⟨p0,p1,p258,p259,p260,p261,p262,p263,pz⟩:=hp1.out.facts
 clear hu hf c0 c1 c2 c3 c4 c5 fz
 go_wp2_with fail
 refine (is_any r s ⟨j,x.e,x.a,x.d,x.t⟩ _ _ (by exact (hf1.out.other hrp 262 _).other hrp 263 _) hs).mono ?_
 rw [isB_ok (by exact HE.out),show Sp.isAt s _ 44=true from H1.out]
 rintro e w2 ⟨rfl,hu2,hf2⟩
 have hp2:Hid (PtAt w2 p { a with min:=m,max:=m }):=((hp1.out.set262 m).set263 m).upd hu2 (by simpa using hrp.symm)
 have HU2:Hid (Upd [r,p] w w2):=(by refine Upd.trans ?_ hu2.one;refine Upd.setCell (Upd.setCell HU.out.one (by simp) _) (by simp) _:Upd [r,p] w w2)
 have hf2':Hid (RdAt w2 r s ⟨j+1,x.e,x.a,x.d,x.t⟩):=hf2
 clear hu2 hf2 d0 d1 d2 d3 d4 d5 dz p0 p1 p258 p259 p260 p261 p262 p263 pz
 go_wp2_with fail
 refine (is_any r s ⟨j+1,x.e,x.a,x.d,x.t⟩ _ _ (by exact hf2'.out) hs).mono ?_
 rw [isB_ok (by exact HE.out),show Sp.isAt s _ 125=false from H2.out]
 rintro e w3 ⟨rfl,hu3,hf3⟩
 have hp3:Hid (PtAt w3 p { a with min:=m,max:=m }):=hp2.out.upd hu3 (by simpa using hrp.symm)
 have HU3:Hid (Upd [r,p] w w3):=HU2.out.trans hu3.one
 have hf3':Hid (RdAt w3 r s ⟨j+1,x.e,x.a,x.d,x.t⟩):=hf3
 obtain⟨b0,b1,b2,b3,b4,b5,bz⟩:=hf3.facts
 obtain⟨q0,q1,q258,q259,q260,q261,q262,q263,qz⟩:=hp3.out.facts
 clear hu3 hf3
 go_wp2_with fail
 refine (number_any r s ⟨j+1,x.e,x.a,x.d,x.t⟩ _ (by exact hf3'.out) hs (by exact HE.out)).mono ?_
 rw [show Sp.number 0 s _=_ from HK.out]
 rintro e w4 ⟨hu4,he1,v,i',hv0,hv1,rfl,hf4⟩
 have HE1:Hid (e1≠0):=he1
 have HU4:Hid (Upd [r,p] w w4):=HU3.out.trans hu4.one
 have hp4:Hid (PtAt w4 p { a with min:=m,max:=m }):=hp3.out.upd hu4 (by simpa using hrp.symm)
 have hf4':Hid (RdAt w4 r s ⟨i',e1,a1,x.d,x.t⟩):=hf4
 obtain⟨d0,d1,d2,d3,d4,d5,dz⟩:=hf4.facts
 obtain⟨p0,p1,p258,p259,p260,p261,p262,p263,pz⟩:=hp4.out.facts
 clear hu4 hf4 he1 b0 b1 b2 b3 b4 b5 bz q0 q1 q258 q259 q260 q261 q262 q263 qz
 have hf5:Hid (RdAt (w4.setCell ⟨p,263,none⟩ (.int .i64 v)) r s ⟨i',e1,a1,x.d,x.t⟩):=hf4'.out.other hrp 263 _
 have hp5:Hid (PtAt (w4.setCell ⟨p,263,none⟩ (.int .i64 v)) p { a with min:=m,max:=v }):=hp4.out.set263 v
 have HU5:Hid (Upd [r,p] w (w4.setCell ⟨p,263,none⟩ (.int .i64 v))):=HU4.out.setCell (by simp) _
 by_cases hlt:v < m
 all_goals
  go_wp2_with (go_at_call 42;refine (fail_any r s ⟨i',e1,a1,x.d,x.t⟩ _ _ _ (by exact hf5.out)).mono ?_;rw [RS.fail_no (by exact HE1.out)];rintro e w6 ⟨rfl,hu6,hf6⟩)
 ·refine (is_any r s ⟨i',e1,a1,x.d,x.t⟩ _ _ (by exact hf6) hs).mono ?_
  rw [isB_err (by exact HE1.out)]
  rintro e w7 ⟨rfl,hu7,hf7⟩
  obtain⟨k0,k1,k2,k3,k4,k5,kz⟩:=RdAt.facts hf7
  go_wp2_with fail
  refine (fail_any r s ⟨i',e1,a1,x.d,x.t⟩ _ _ _ (by exact hf7)).mono ?_
  rw [RS.fail_no (by exact HE1.out)]
  rintro e w8 ⟨rfl,hu8,hf8⟩
  go_wp2_with fail
  go_end0
  exact CountOut.mk_error _ _ i' m v HR.out HE1.out rfl (((HU5.out.trans hu6.one).trans hu7.one).trans hu8.one) hf8 (((hp5.out.upd hu6 (by simpa using hrp.symm)).upd hu7 (by simpa using hrp.symm)).upd hu8 (by simpa using hrp.symm))
 ·refine (is_any r s ⟨i',e1,a1,x.d,x.t⟩ _ _ (by exact hf5.out) hs).mono ?_
  rw [isB_err (by exact HE1.out)]
  rintro e w7 ⟨rfl,hu7,hf7⟩
  obtain⟨k0,k1,k2,k3,k4,k5,kz⟩:=RdAt.facts hf7
  go_wp2_with fail
  refine (fail_any r s ⟨i',e1,a1,x.d,x.t⟩ _ _ _ (by exact hf7)).mono ?_
  rw [RS.fail_no (by exact HE1.out)]
  rintro e w8 ⟨rfl,hu8,hf8⟩
  go_wp2_with fail
  go_end0
  exact CountOut.mk_error _ _ i' m v HR.out HE1.out rfl ((HU5.out.trans hu7.one).trans hu8.one) hf8 ((hp5.out.upd hu7 (by simpa using hrp.symm)).upd hu8 (by simpa using hrp.symm))
set_option maxHeartbeats 400000 in
theorem braces_A3 (r p:Nat) (s:ByteArray) (x:RS) (a:PS) (w:World) (h:RdAt w r s x) (hp:PtAt w p a) (hrp:r≠p) (hs:s.size≤200) (he:x.e=0) (m:Int) (j:Nat) (hn:Sp.number 0 s x.i=.ok (m,j)) (h1:Sp.isAt s j 44=true) (h2:Sp.isAt s (j+1) 125=false) (n:Int) (k:Nat) (hk:Sp.number 0 s (j+1)=.ok (n,k)) (hl:n < m) :
  Calls Tryz.prog 112 #[.pointer (some ⟨r,0,none⟩),.pointer (some ⟨p,0,none⟩)] w (CountOut r p s x a w (Sp.bounds s x.i)):=by
 obtain⟨c0,c1,c2,c3,c4,c5,fz⟩:=h.facts
 have hh:Hid (RdAt w r s x):=h
 have hpp:Hid (PtAt w p a):=hp
 have HE:Hid (x.e=0):=he
 have HN:Hid (Sp.number 0 s x.i=.ok (m,j)):=hn
 have HR:Hid (Sp.bounds s x.i=.error (4,(j+1:Nat))):=bounds_A3 hn h1 hk hl
 have H1:Hid (Sp.isAt s (j) 44=true):=h1
 clear h1
 have H2:Hid (Sp.isAt s (j+1) 125=false):=h2
 clear h2
 have HK:Hid (Sp.number 0 s (j+1)=.ok (n,k)):=hk
 clear hk
 clear h hp he hn
 go_enter Tryz.func112,Tryz.ntmps112
 go_wp2_with fail
 refine (number_any r s x _ (by exact hh.out) hs HE.out).mono ?_
 rw [HN.out]
 rintro e w1 ⟨hu,rfl,hm0,hm1,hf⟩
 have HU:Hid (Upd [r] w w1):=hu
 have hf1:Hid (RdAt w1 r s ⟨j,x.e,x.a,x.d,x.t⟩):=hf
 have hp1:Hid (PtAt w1 p a):=hpp.out.upd hu (by simpa using hrp.symm)
 obtain⟨d0,d1,d2,d3,d4,d5,dz⟩:=hf.facts
 obtain⟨p0,p1,p258,p259,p260,p261,p262,p263,pz⟩:=hp1.out.facts
 clear hu hf c0 c1 c2 c3 c4 c5 fz
 go_wp2_with fail
 refine (is_any r s ⟨j,x.e,x.a,x.d,x.t⟩ _ _ (by exact (hf1.out.other hrp 262 _).other hrp 263 _) hs).mono ?_
 rw [isB_ok (by exact HE.out),show Sp.isAt s _ 44=true from H1.out]
 rintro e w2 ⟨rfl,hu2,hf2⟩
 have hp2:Hid (PtAt w2 p { a with min:=m,max:=m }):=((hp1.out.set262 m).set263 m).upd hu2 (by simpa using hrp.symm)
 have HU2:Hid (Upd [r,p] w w2):=(by refine Upd.trans ?_ hu2.one;refine Upd.setCell (Upd.setCell HU.out.one (by simp) _) (by simp) _:Upd [r,p] w w2)
 have hf2':Hid (RdAt w2 r s ⟨j+1,x.e,x.a,x.d,x.t⟩):=hf2
 clear hu2 hf2 d0 d1 d2 d3 d4 d5 dz p0 p1 p258 p259 p260 p261 p262 p263 pz
 go_wp2_with fail
 refine (is_any r s ⟨j+1,x.e,x.a,x.d,x.t⟩ _ _ (by exact hf2'.out) hs).mono ?_
 rw [isB_ok (by exact HE.out),show Sp.isAt s _ 125=false from H2.out]
 rintro e w3 ⟨rfl,hu3,hf3⟩
 have hp3:Hid (PtAt w3 p { a with min:=m,max:=m }):=hp2.out.upd hu3 (by simpa using hrp.symm)
 have HU3:Hid (Upd [r,p] w w3):=HU2.out.trans hu3.one
 have hf3':Hid (RdAt w3 r s ⟨j+1,x.e,x.a,x.d,x.t⟩):=hf3
 obtain⟨b0,b1,b2,b3,b4,b5,bz⟩:=hf3.facts
 obtain⟨q0,q1,q258,q259,q260,q261,q262,q263,qz⟩:=hp3.out.facts
 clear hu3 hf3
 go_wp2_with fail
 refine (number_any r s ⟨j+1,x.e,x.a,x.d,x.t⟩ _ (by exact hf3'.out) hs (by exact HE.out)).mono ?_
 rw [show Sp.number 0 s _=_ from HK.out]
 rintro e w4 ⟨hu4,rfl,hv0,hv1,hf4⟩
 have HU4:Hid (Upd [r,p] w w4):=HU3.out.trans hu4.one
 have hp4:Hid (PtAt w4 p { a with min:=m,max:=m }):=hp3.out.upd hu4 (by simpa using hrp.symm)
 have hf4':Hid (RdAt w4 r s ⟨k,x.e,x.a,x.d,x.t⟩):=hf4
 obtain⟨d0,d1,d2,d3,d4,d5,dz⟩:=hf4.facts
 obtain⟨p0,p1,p258,p259,p260,p261,p262,p263,pz⟩:=hp4.out.facts
 clear hu4 hf4 b0 b1 b2 b3 b4 b5 bz q0 q1 q258 q259 q260 q261 q262 q263 qz
 have hf5:Hid (RdAt (w4.setCell ⟨p,263,none⟩ (.int .i64 n)) r s ⟨k,x.e,x.a,x.d,x.t⟩):=hf4'.out.other hrp 263 _
 have hp5:Hid (PtAt (w4.setCell ⟨p,263,none⟩ (.int .i64 n)) p { a with min:=m,max:=n }):=hp4.out.set263 n
 have HU5:Hid (Upd [r,p] w (w4.setCell ⟨p,263,none⟩ (.int .i64 n))):=HU4.out.setCell (by simp) _
 go_wp2_with fail
 refine (fail_any r s ⟨k,x.e,x.a,x.d,x.t⟩ _ _ _ (by exact hf5.out)).mono ?_
 rw [RS.fail_ok (by exact HE.out)]
 rintro e w6 ⟨rfl,hu6,hf6⟩
 go_wp2_with fail
 refine (is_any r s ⟨k,4,j+1,x.d,x.t⟩ _ _ (by exact hf6) hs).mono ?_
 rw [isB_err (by exact (by decide:(4:Int)≠0))]
 rintro e w7 ⟨rfl,hu7,hf7⟩
 obtain⟨k0,k1,k2,k3,k4,k5,kz⟩:=RdAt.facts hf7
 go_wp2_with fail
 refine (fail_any r s ⟨k,4,j+1,x.d,x.t⟩ _ _ _ (by exact hf7)).mono ?_
 rw [RS.fail_no (by exact (by decide:(4:Int)≠0))]
 rintro e w8 ⟨rfl,hu8,hf8⟩
 go_wp2_with fail
 go_end0
 exact CountOut.mk_error _ _ k m n HR.out (by decide) rfl (((HU5.out.trans hu6.one).trans hu7.one).trans hu8.one) hf8 (((hp5.out.upd hu6 (by simpa using hrp.symm)).upd hu7 (by simpa using hrp.symm)).upd hu8 (by simpa using hrp.symm))
set_option maxHeartbeats 400000 in
theorem braces_A4 (r p:Nat) (s:ByteArray) (x:RS) (a:PS) (w:World) (h:RdAt w r s x) (hp:PtAt w p a) (hrp:r≠p) (hs:s.size≤200) (he:x.e=0) (m:Int) (j:Nat) (hn:Sp.number 0 s x.i=.ok (m,j)) (h1:Sp.isAt s j 44=true) (h2:Sp.isAt s (j+1) 125=false) (n:Int) (k:Nat) (hk:Sp.number 0 s (j+1)=.ok (n,k)) (hl:¬ n < m) (hl':n≤20) :
  Calls Tryz.prog 112 #[.pointer (some ⟨r,0,none⟩),.pointer (some ⟨p,0,none⟩)] w (CountOut r p s x a w (Sp.bounds s x.i)):=by
 obtain⟨c0,c1,c2,c3,c4,c5,fz⟩:=h.facts
 have hh:Hid (RdAt w r s x):=h
 have hpp:Hid (PtAt w p a):=hp
 have HE:Hid (x.e=0):=he
 have HN:Hid (Sp.number 0 s x.i=.ok (m,j)):=hn
 have HR:Hid (Sp.bounds s x.i=if Sp.isAt s k 125 then .ok (m,n,k+1) else .error (3,k)):=bounds_A4 hn h1 hk hl hl'
 have H1:Hid (Sp.isAt s (j) 44=true):=h1
 clear h1
 have H2:Hid (Sp.isAt s (j+1) 125=false):=h2
 clear h2
 have HK:Hid (Sp.number 0 s (j+1)=.ok (n,k)):=hk
 clear hk
 clear h hp he hn
 go_enter Tryz.func112,Tryz.ntmps112
 go_wp2_with fail
 refine (number_any r s x _ (by exact hh.out) hs HE.out).mono ?_
 rw [HN.out]
 rintro e w1 ⟨hu,rfl,hm0,hm1,hf⟩
 have HU:Hid (Upd [r] w w1):=hu
 have hf1:Hid (RdAt w1 r s ⟨j,x.e,x.a,x.d,x.t⟩):=hf
 have hp1:Hid (PtAt w1 p a):=hpp.out.upd hu (by simpa using hrp.symm)
 obtain⟨d0,d1,d2,d3,d4,d5,dz⟩:=hf.facts
 obtain⟨p0,p1,p258,p259,p260,p261,p262,p263,pz⟩:=hp1.out.facts
 clear hu hf c0 c1 c2 c3 c4 c5 fz
 go_wp2_with fail
 refine (is_any r s ⟨j,x.e,x.a,x.d,x.t⟩ _ _ (by exact (hf1.out.other hrp 262 _).other hrp 263 _) hs).mono ?_
 rw [isB_ok (by exact HE.out),show Sp.isAt s _ 44=true from H1.out]
 rintro e w2 ⟨rfl,hu2,hf2⟩
 have hp2:Hid (PtAt w2 p { a with min:=m,max:=m }):=((hp1.out.set262 m).set263 m).upd hu2 (by simpa using hrp.symm)
 have HU2:Hid (Upd [r,p] w w2):=(by refine Upd.trans ?_ hu2.one;refine Upd.setCell (Upd.setCell HU.out.one (by simp) _) (by simp) _:Upd [r,p] w w2)
 have hf2':Hid (RdAt w2 r s ⟨j+1,x.e,x.a,x.d,x.t⟩):=hf2
 clear hu2 hf2 d0 d1 d2 d3 d4 d5 dz p0 p1 p258 p259 p260 p261 p262 p263 pz
 go_wp2_with fail
 refine (is_any r s ⟨j+1,x.e,x.a,x.d,x.t⟩ _ _ (by exact hf2'.out) hs).mono ?_
 rw [isB_ok (by exact HE.out),show Sp.isAt s _ 125=false from H2.out]
 rintro e w3 ⟨rfl,hu3,hf3⟩
 have hp3:Hid (PtAt w3 p { a with min:=m,max:=m }):=hp2.out.upd hu3 (by simpa using hrp.symm)
 have HU3:Hid (Upd [r,p] w w3):=HU2.out.trans hu3.one
 have hf3':Hid (RdAt w3 r s ⟨j+1,x.e,x.a,x.d,x.t⟩):=hf3
 obtain⟨b0,b1,b2,b3,b4,b5,bz⟩:=hf3.facts
 obtain⟨q0,q1,q258,q259,q260,q261,q262,q263,qz⟩:=hp3.out.facts
 clear hu3 hf3
 go_wp2_with fail
 refine (number_any r s ⟨j+1,x.e,x.a,x.d,x.t⟩ _ (by exact hf3'.out) hs (by exact HE.out)).mono ?_
 rw [show Sp.number 0 s _=_ from HK.out]
 rintro e w4 ⟨hu4,rfl,hv0,hv1,hf4⟩
 have HU4:Hid (Upd [r,p] w w4):=HU3.out.trans hu4.one
 have hp4:Hid (PtAt w4 p { a with min:=m,max:=m }):=hp3.out.upd hu4 (by simpa using hrp.symm)
 have hf4':Hid (RdAt w4 r s ⟨k,x.e,x.a,x.d,x.t⟩):=hf4
 obtain⟨d0,d1,d2,d3,d4,d5,dz⟩:=hf4.facts
 obtain⟨p0,p1,p258,p259,p260,p261,p262,p263,pz⟩:=hp4.out.facts
 clear hu4 hf4 b0 b1 b2 b3 b4 b5 bz q0 q1 q258 q259 q260 q261 q262 q263 qz
 have hf5:Hid (RdAt (w4.setCell ⟨p,263,none⟩ (.int .i64 n)) r s ⟨k,x.e,x.a,x.d,x.t⟩):=hf4'.out.other hrp 263 _
 have hp5:Hid (PtAt (w4.setCell ⟨p,263,none⟩ (.int .i64 n)) p { a with min:=m,max:=n }):=hp4.out.set263 n
 have HU5:Hid (Upd [r,p] w (w4.setCell ⟨p,263,none⟩ (.int .i64 n))):=HU4.out.setCell (by simp) _
 go_wp2_with fail
 refine (is_any r s ⟨k,x.e,x.a,x.d,x.t⟩ _ _ (by exact hf5.out) hs).mono ?_
 rw [isB_ok (by exact HE.out)]
 cases hc:Sp.isAt s k 125 with
 | true=>
  have HR':Hid (Sp.bounds s x.i=.ok (m,n,k+1)):=by show _=_;rw [HR.out,hc];rfl
  clear hc
  rintro e w6 ⟨rfl,hu6,hf6⟩
  go_wp2_with fail
  go_end0
  exact CountOut.mk_ok _ _ _ HR'.out rfl (HU5.out.trans hu6.one) hf6 (hp5.out.upd hu6 (by simpa using hrp.symm))
 | false=>
  have HR':Hid (Sp.bounds s x.i=.error (3,k)):=by show _=_;rw [HR.out,hc];rfl
  clear hc
  rintro e w6 ⟨rfl,hu6,hf6⟩
  obtain⟨k0,k1,k2,k3,k4,k5,kz⟩:=RdAt.facts hf6
  go_wp2_with fail
  refine (fail_any r s ⟨k,x.e,x.a,x.d,x.t⟩ _ _ _ (by exact hf6)).mono ?_
  rw [RS.fail_ok (by exact HE.out)]
  rintro e w7 ⟨rfl,hu7,hf7⟩
  go_wp2_with fail
  go_end0
  exact CountOut.mk_error _ _ k m n HR'.out (by decide) rfl ((HU5.out.trans hu6.one).trans hu7.one) hf7 ((hp5.out.upd hu6 (by simpa using hrp.symm)).upd hu7 (by simpa using hrp.symm))
theorem number_le {m:Int} {s:ByteArray} {i:Nat} {v:Int} {j:Nat} (h:Sp.number m s i=.ok (v,j)):v≤20:=by
 unfold Sp.number at h
 split at h
 ·split at h
  ·cases h
  ·rename_i q
   have e:Sp.digits s i=(v,j):=by simpa using h
   rw [e] at q;simp at q;omega
 ·cases h
theorem braces_any (r p:Nat) (s:ByteArray) (x:RS) (a:PS) (w:World) (h:RdAt w r s x) (hp:PtAt w p a) (hrp:r≠p) (hs:s.size≤200) (he:x.e=0) :
  Calls Tryz.prog 112 #[.pointer (some ⟨r,0,none⟩),.pointer (some ⟨p,0,none⟩)] w (CountOut r p s x a w (Sp.bounds s x.i)):=by
 cases hn:Sp.number 0 s x.i with
 | error f=>obtain⟨e1,a1⟩:=f;exact braces_no r p s x a w h hp hrp hs he e1 a1 hn
 | ok v=>
  obtain⟨m,j⟩:=v
  cases h1:Sp.isAt s j 44 with
  | false=>
   cases h2:Sp.isAt s j 125 with
   | false=>exact braces_B2 r p s x a w h hp hrp hs he m j hn h1 h2
   | true=>exact braces_B1 r p s x a w h hp hrp hs he m j hn h1 h2
  | true=>
   cases h2:Sp.isAt s (j+1) 125 with
   | true=>exact braces_A1 r p s x a w h hp hrp hs he m j hn h1 h2
   | false=>
    cases hk:Sp.number 0 s (j+1) with
    | error f=>obtain⟨e1,a1⟩:=f;exact braces_A2 r p s x a w h hp hrp hs he m j hn h1 h2 e1 a1 hk
    | ok v=>
     obtain⟨n,k⟩:=v
     by_cases hl:n < m
     ·exact braces_A3 r p s x a w h hp hrp hs he m j hn h1 h2 n k hk hl
     ·exact braces_A4 r p s x a w h hp hrp hs he m j hn h1 h2 n k hk hl (number_le hk)
set_option maxHeartbeats 400000 in
theorem count_out (r p:Nat) (s:ByteArray) (x:RS) (a:PS) (w:World) (h:RdAt w r s x) (hp:PtAt w p a) (hrp:r≠p) (hs:s.size≤200) (he:x.e=0) (hmin:a.min=-1) (hmax:a.max=0) (hi:¬ x.i < s.size) :
  Calls Tryz.prog 86 #[.pointer (some ⟨r,0,none⟩),.pointer (some ⟨p,0,none⟩)] w (CountOut r p s x a w (Sp.count s x.i)):=by
 obtain⟨c0,c1,c2,c3,c4,c5,fz⟩:=h.facts
 obtain⟨p0,p1,p258,p259,p260,p261,p262,p263,pz⟩:=hp.facts
 have hh:Hid (RdAt w r s x):=h
 have hpp:Hid (PtAt w p a):=hp
 have HE:Hid (x.e=0):=he
 have HA:Hid (a={ a with min:=-1,max:=0 }):=by show _=_;cases a;simp_all
 have HR:Hid (Sp.count s x.i=.ok (-1,0,x.i)):=by show _=_;unfold Sp.count;simp [isAt_out hi]
 have hB:atB s x=false:=by rw [atB_ok he];simpa using hi
 clear h hp he hmin hmax
 go_enter Tryz.func86,Tryz.ntmps86
 go_wp2_with (go_at_call 87;refine (at_any r s x _ (by exact hh.out) hs).mono ?_;rintro e w' ⟨rfl,n,rfl⟩)
 go_end0
 exact CountOut.mk_ok _ _ _ HR.out rfl (by (repeat (first|exact Upd.refl _ _|refine Upd.drewN ?_|refine Upd.drew ?_|refine Upd.setCell ?_ (by simp) _|refine Upd.alloc ?_ _))) (by exact hh.out) (by rw [← HA.out];exact hpp.out)
set_option maxHeartbeats 400000 in
theorem rcount_star (r p:Nat) (s:ByteArray) (x:RS) (a:PS) (w:World) (h:RdAt w r s x) (hp:PtAt w p a) (hrp:r≠p) (hs:s.size≤200) (he:x.e=0) (hmin:a.min=-1) (hmax:a.max=0) (hi:x.i < s.size) (hv:Sp.byteAt s x.i=42) :
  Calls Tryz.prog 86 #[.pointer (some ⟨r,0,none⟩),.pointer (some ⟨p,0,none⟩)] w (CountOut r p s x a w (Sp.count s x.i)):=by
 obtain⟨c0,c1,c2,c3,c4,c5,fz⟩:=h.facts
 obtain⟨p0,p1,p258,p259,p260,p261,p262,p263,pz⟩:=hp.facts
 have hh:Hid (RdAt w r s x):=h
 have hpp:Hid (PtAt w p a):=hp
 have HE:Hid (x.e=0):=he
 have HA:Hid (a={ a with min:=-1,max:=0 }):=by show _=_;cases a;simp_all
 have HR:Hid (Sp.count s x.i=.ok (0,-1,x.i+1)):=by show _=_;unfold Sp.count;simp [isAt_ok hi,hv]
 have hB:atB s x=true:=by rw [atB_ok he];simpa using hi
 have hV:atV s x=42:=by rw [atV_in hB];exact hv
 clear h hp he hmin hmax
 go_enter Tryz.func86,Tryz.ntmps86
 go_wp2_with (go_at_call 87;refine (at_any r s x _ (by exact hh.out) hs).mono ?_;rintro e w' ⟨rfl,n,rfl⟩)
 go_end0
 exact CountOut.mk_ok _ _ _ HR.out rfl (by (repeat (first|exact Upd.refl _ _|refine Upd.drewN ?_|refine Upd.drew ?_|refine Upd.setCell ?_ (by simp) _|refine Upd.alloc ?_ _))) (((hh.out.set1 (x.i+1)).other hrp 262 _).other hrp 263 _) (((hpp.out.other hrp.symm 1 _).set262 0).set263 (-1))
set_option maxHeartbeats 400000 in
theorem count_plus (r p:Nat) (s:ByteArray) (x:RS) (a:PS) (w:World) (h:RdAt w r s x) (hp:PtAt w p a) (hrp:r≠p) (hs:s.size≤200) (he:x.e=0) (hmin:a.min=-1) (hmax:a.max=0) (hi:x.i < s.size) (hv:Sp.byteAt s x.i=43) :
  Calls Tryz.prog 86 #[.pointer (some ⟨r,0,none⟩),.pointer (some ⟨p,0,none⟩)] w (CountOut r p s x a w (Sp.count s x.i)):=by
 obtain⟨c0,c1,c2,c3,c4,c5,fz⟩:=h.facts
 obtain⟨p0,p1,p258,p259,p260,p261,p262,p263,pz⟩:=hp.facts
 have hh:Hid (RdAt w r s x):=h
 have hpp:Hid (PtAt w p a):=hp
 have HE:Hid (x.e=0):=he
 have HA:Hid (a={ a with min:=-1,max:=0 }):=by show _=_;cases a;simp_all
 have HR:Hid (Sp.count s x.i=.ok (1,-1,x.i+1)):=by show _=_;unfold Sp.count;simp [isAt_ok hi,hv]
 have hB:atB s x=true:=by rw [atB_ok he];simpa using hi
 have hV:atV s x=43:=by rw [atV_in hB];exact hv
 clear h hp he hmin hmax
 go_enter Tryz.func86,Tryz.ntmps86
 go_wp2_with (go_at_call 87;refine (at_any r s x _ (by exact hh.out) hs).mono ?_;rintro e w' ⟨rfl,n,rfl⟩)
 go_end0
 exact CountOut.mk_ok _ _ _ HR.out rfl (by (repeat (first|exact Upd.refl _ _|refine Upd.drewN ?_|refine Upd.drew ?_|refine Upd.setCell ?_ (by simp) _|refine Upd.alloc ?_ _))) (((hh.out.set1 (x.i+1)).other hrp 262 _).other hrp 263 _) (((hpp.out.other hrp.symm 1 _).set262 1).set263 (-1))
set_option maxHeartbeats 400000 in
theorem count_quest (r p:Nat) (s:ByteArray) (x:RS) (a:PS) (w:World) (h:RdAt w r s x) (hp:PtAt w p a) (hrp:r≠p) (hs:s.size≤200) (he:x.e=0) (hmin:a.min=-1) (hmax:a.max=0) (hi:x.i < s.size) (hv:Sp.byteAt s x.i=63) :
  Calls Tryz.prog 86 #[.pointer (some ⟨r,0,none⟩),.pointer (some ⟨p,0,none⟩)] w (CountOut r p s x a w (Sp.count s x.i)):=by
 obtain⟨c0,c1,c2,c3,c4,c5,fz⟩:=h.facts
 obtain⟨p0,p1,p258,p259,p260,p261,p262,p263,pz⟩:=hp.facts
 have hh:Hid (RdAt w r s x):=h
 have hpp:Hid (PtAt w p a):=hp
 have HE:Hid (x.e=0):=he
 have HA:Hid (a={ a with min:=-1,max:=0 }):=by show _=_;cases a;simp_all
 have HR:Hid (Sp.count s x.i=.ok (0,1,x.i+1)):=by show _=_;unfold Sp.count;simp [isAt_ok hi,hv]
 have hB:atB s x=true:=by rw [atB_ok he];simpa using hi
 have hV:atV s x=63:=by rw [atV_in hB];exact hv
 clear h hp he hmin hmax
 go_enter Tryz.func86,Tryz.ntmps86
 go_wp2_with (go_at_call 87;refine (at_any r s x _ (by exact hh.out) hs).mono ?_;rintro e w' ⟨rfl,n,rfl⟩)
 go_end0
 exact CountOut.mk_ok _ _ _ HR.out rfl (by (repeat (first|exact Upd.refl _ _|refine Upd.drewN ?_|refine Upd.drew ?_|refine Upd.setCell ?_ (by simp) _|refine Upd.alloc ?_ _))) (((hh.out.set1 (x.i+1)).other hrp 262 _).other hrp 263 _) (((hpp.out.other hrp.symm 1 _).set262 0).set263 (1))
set_option maxHeartbeats 400000 in
theorem count_brace (r p:Nat) (s:ByteArray) (x:RS) (a:PS) (w:World) (h:RdAt w r s x) (hp:PtAt w p a) (hrp:r≠p) (hs:s.size≤200) (he:x.e=0) (hmin:a.min=-1) (hmax:a.max=0) (hi:x.i < s.size) (hv:Sp.byteAt s x.i=123) :
  Calls Tryz.prog 86 #[.pointer (some ⟨r,0,none⟩),.pointer (some ⟨p,0,none⟩)] w (CountOut r p s x a w (Sp.count s x.i)):=by
 obtain⟨c0,c1,c2,c3,c4,c5,fz⟩:=h.facts
 obtain⟨p0,p1,p258,p259,p260,p261,p262,p263,pz⟩:=hp.facts
 have hh:Hid (RdAt w r s x):=h
 have hpp:Hid (PtAt w p a):=hp
 have HE:Hid (x.e=0):=he
 have HA:Hid (a={ a with min:=-1,max:=0 }):=by show _=_;cases a;simp_all
 have HR:Hid (Sp.count s x.i=Sp.bounds s (x.i+1)):=by show _=_;unfold Sp.count;simp [isAt_ok hi,hv]
 have hB:atB s x=true:=by rw [atB_ok he];simpa using hi
 have hV:atV s x=123:=by rw [atV_in hB];exact hv
 clear h hp he hmin hmax
 go_enter Tryz.func86,Tryz.ntmps86
 go_wp2_with (go_at_call 87;refine (at_any r s x _ (by exact hh.out) hs).mono ?_;rintro e w' ⟨rfl,n,rfl⟩)
 refine (braces_any r p s (⟨x.i+1,x.e,x.a,x.d,x.t⟩:RS) a _ (by exact hh.out.set1 (x.i+1)) (by exact hpp.out.other hrp.symm 1 _) hrp hs (by exact HE.out)).mono ?_
 rintro e w1 ⟨rfl,hu,hq⟩
 have HU:Hid (Upd [r,p] w w1):=(by refine Upd.trans ?_ hu;(repeat (first|exact Upd.refl _ _|refine Upd.drewN ?_|refine Upd.drew ?_|refine Upd.setCell ?_ (by simp) _|refine Upd.alloc ?_ _)):Upd [r,p] w w1)
 have HQ:=Hid.out (p:=_) hq
 have HQ':Hid (CountOut r p s x a w (Sp.count s x.i) (.returned (.tuple #[])) w1):=by
  rw [HR.out];exact⟨rfl,HU.out,hq⟩
 clear hu hq HQ
 go_wp2_with fail
 go_end0
 exact HQ'.out
set_option maxHeartbeats 400000 in
theorem count_none (r p:Nat) (s:ByteArray) (x:RS) (a:PS) (w:World) (h:RdAt w r s x) (hp:PtAt w p a) (hrp:r≠p) (hs:s.size≤200) (he:x.e=0) (hmin:a.min=-1) (hmax:a.max=0) (hi:x.i < s.size) (h1:Sp.byteAt s x.i≠42) (h2:Sp.byteAt s x.i≠43) (h3:Sp.byteAt s x.i≠63) (h4:Sp.byteAt s x.i≠123) :
  Calls Tryz.prog 86 #[.pointer (some ⟨r,0,none⟩),.pointer (some ⟨p,0,none⟩)] w (CountOut r p s x a w (Sp.count s x.i)):=by
 obtain⟨c0,c1,c2,c3,c4,c5,fz⟩:=h.facts
 obtain⟨p0,p1,p258,p259,p260,p261,p262,p263,pz⟩:=hp.facts
 have hh:Hid (RdAt w r s x):=h
 have hpp:Hid (PtAt w p a):=hp
 have HE:Hid (x.e=0):=he
 have HA:Hid (a={ a with min:=-1,max:=0 }):=by show _=_;cases a;simp_all
 have HR:Hid (Sp.count s x.i=.ok (-1,0,x.i)):=by show _=_;unfold Sp.count;simp [isAt_ok hi,h1,h2,h3,h4]
 have hB:atB s x=true:=by rw [atB_ok he];simpa using hi
 have HV:Hid (atV s x=Sp.byteAt s x.i):=atV_in hB
 have g1:(atV s x == 42)=false:=by rw [HV.out];simpa using h1
 have g2:(atV s x == 43)=false:=by rw [HV.out];simpa using h2
 have g3:(atV s x == 63)=false:=by rw [HV.out];simpa using h3
 have g4:(atV s x == 123)=false:=by rw [HV.out];simpa using h4
 clear h1 h2 h3 h4
 clear h hp he hmin hmax
 go_enter Tryz.func86,Tryz.ntmps86
 go_wp2_with (go_at_call 87;refine (at_any r s x _ (by exact hh.out) hs).mono ?_;rintro e w' ⟨rfl,n,rfl⟩)
 go_end0
 exact CountOut.mk_ok _ _ _ HR.out rfl (by (repeat (first|exact Upd.refl _ _|refine Upd.drewN ?_|refine Upd.drew ?_|refine Upd.setCell ?_ (by simp) _|refine Upd.alloc ?_ _))) (by exact hh.out) (by rw [← HA.out];exact hpp.out)
theorem count_any (r p:Nat) (s:ByteArray) (x:RS) (a:PS) (w:World) (h:RdAt w r s x) (hp:PtAt w p a) (hrp:r≠p) (hs:s.size≤200) (he:x.e=0) (hmin:a.min=-1) (hmax:a.max=0) :
  Calls Tryz.prog 86 #[.pointer (some ⟨r,0,none⟩),.pointer (some ⟨p,0,none⟩)] w (CountOut r p s x a w (Sp.count s x.i)):=by
 by_cases hi:x.i < s.size
 ·by_cases h1:Sp.byteAt s x.i=42
  ·exact rcount_star r p s x a w h hp hrp hs he hmin hmax hi h1
  by_cases h2:Sp.byteAt s x.i=43
  ·exact count_plus r p s x a w h hp hrp hs he hmin hmax hi h2
  by_cases h3:Sp.byteAt s x.i=63
  ·exact count_quest r p s x a w h hp hrp hs he hmin hmax hi h3
  by_cases h4:Sp.byteAt s x.i=123
  ·exact count_brace r p s x a w h hp hrp hs he hmin hmax hi h4
  ·exact count_none r p s x a w h hp hrp hs he hmin hmax hi h1 h2 h3 h4
 ·exact count_out r p s x a w h hp hrp hs he hmin hmax hi
def Drawn (w:World) (k:Ending) (w':World):Prop:=k=.returned (.tuple #[])∧∃ n,w'=w.drewN n
set_option maxHeartbeats 400000 in
theorem count_err (r p:Nat) (s:ByteArray) (x:RS) (w:World) (h:RdAt w r s x) (hs:s.size≤200) (he:x.e≠0) :
  Calls Tryz.prog 86 #[.pointer (some ⟨r,0,none⟩),.pointer (some ⟨p,0,none⟩)] w (Drawn w):=by
 obtain⟨c0,c1,c2,c3,c4,c5,fz⟩:=h.facts
 have hh:Hid (RdAt w r s x):=h
 have hB:atB s x=false:=by simp [atB,he]
 clear h he
 go_enter Tryz.func86,Tryz.ntmps86
 go_wp2_with (go_at_call 87;refine (at_any r s x _ (by exact hh.out) hs).mono ?_;rintro e w' ⟨rfl,n,rfl⟩)
 go_end0
 exact⟨rfl,_,rfl⟩
end Go.Proofs.YtcpfpnjkfahjcaaGreat
