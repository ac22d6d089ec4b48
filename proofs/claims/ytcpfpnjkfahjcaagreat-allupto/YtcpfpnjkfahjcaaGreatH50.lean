import Derived.Test.YtcpfpnjkfahjcaaGreatH49
import Derived.Lib.SlBytesConst
set_option linter.unusedSimpArgs false
set_option linter.unusedVariables false
namespace Go.Proofs.YtcpfpnjkfahjcaaGreat
open Go.RowKit
def sRow (l:List Tr):Tr:=⟨{ Sp.blank with kind:=5 },l⟩
def sCho (l:List Tr):Tr:=⟨{ Sp.blank with kind:=4 },l⟩
def sByL (b:Nat):Lab:={ Sp.blank with kind:=0,byte:=b,set:=fun c=>c == b }
def sGrL (k:Nat):Lab:={ Sp.blank with kind:=3,told:=true,num:=k,min:=-1,max:=0 }
def sLsL (a b mn mx:Int):Lab:={ Sp.blank with kind:=2,set:=Sp.add (fun _=>false) a b,min:=mn,max:=mx }
def strP:ByteArray:=⟨#[40,91,97,45,122,93,43,41,61,40,91,48,45,57,93,42,41]⟩
def strK:List UInt8:=[97,98,61,49,50,10,120,10,97,98,99,61,49,50,51,10,113,61]
def strTr:Tr:=sCho [sRow [⟨sGrL 1,[sCho [sRow [⟨sLsL 97 122 1 (-1),[]⟩]]]⟩,⟨sByL 61,[]⟩,⟨sGrL 2,[sCho [sRow [⟨sLsL 48 57 0 (-1),[]⟩]]]⟩]]
theorem str_choice:Sp.choice strP 9 ⟨0,0⟩=.ok (strTr,⟨17,2⟩):=by kernel_rfl
theorem str_siz:Sp.size strTr=3:=by
 unfold strTr sCho sRow Sp.size
 simp only [Sp.sizes]
 kernel_rfl
theorem str_read:Sp.read strP=.ok (strTr,2):=by
 unfold Sp.read
 rw [if_neg (by decide),str_choice]
 simp only
 rw [if_neg (by decide),str_siz,if_neg (by decide)]
def strA:List UInt8:=[97,98,61,49,50]
def strB:List UInt8:=[120]
def strC:List UInt8:=[97,98,99,61,49,50]
def strD:List UInt8:=[113,61]
def strF:Nat→Int×Int:=Sp.spansOf [(1,0,2),(2,3,5)] 5
def strG:Nat→Int×Int:=Sp.spansOf [(1,0,1),(2,2,2)] 2
theorem str_semA:(Sp.sem (str strA) strTr).m 0 5=true∧(Sp.sem (str strA) strTr).g 0 5=[(1,0,2),(2,3,5)]:=by
 unfold strTr sCho sRow Sp.sem
 simp only [Sp.sems]
 exact⟨by kernel_rfl,by kernel_rfl⟩
theorem str_semB:(Sp.sem (str strB) strTr).m 0 1=false:=by
 unfold strTr sCho sRow Sp.sem
 simp only [Sp.sems]
 kernel_rfl
theorem str_semD:(Sp.sem (str strD) strTr).m 0 2=true∧(Sp.sem (str strD) strTr).g 0 2=[(1,0,1),(2,2,2)]:=by
 unfold strTr sCho sRow Sp.sem
 simp only [Sp.sems]
 exact⟨by kernel_rfl,by kernel_rfl⟩
theorem str_wA:wholeS strTr (str strA)=some strF:=by
 unfold wholeS
 have e:(str strA).size=5:=rfl
 rw [e,str_semA.1,str_semA.2];rfl
theorem str_wB:wholeS strTr (str strB)=none:=by
 unfold wholeS
 have e:(str strB).size=1:=rfl
 rw [e,str_semB];rfl
theorem str_wD:wholeS strTr (str strD)=some strG:=by
 unfold wholeS
 have e:(str strD).size=2:=rfl
 rw [e,str_semD.1,str_semD.2];rfl
def cu0:Sp.Cu:=⟨0,0,0,[]⟩
theorem str_feedR (ap:Sp.Ap):Sp.feedR ap 6 cu0 strK=[Sp.overR ap ⟨0,0,5,strA⟩,Sp.overR ap ⟨1,6,1,strB⟩,Sp.overR ap ⟨2,8,7,strC⟩]:=by kernel_rfl
theorem str_feedC:Sp.feedC 6 cu0 strK=⟨3,16,2,strD⟩:=by kernel_rfl
def recsA:List Sp.Rec:=[⟨0,0,5,0,some fun k=>Sp.mv ((0:Nat):Int) (strF k)⟩,⟨1,6,1,1,none⟩,⟨2,8,7,2,none⟩]
def recsB:List Sp.Rec:=[⟨3,16,2,0,some fun k=>Sp.mv ((16:Nat):Int) (strG k)⟩]
theorem str_recsA:Sp.feedR (apartS strTr 6) 6 cu0 strK=recsA:=by
 have eA:apartS strTr 6 0 5 strA=(0,some fun k=>Sp.mv ((0:Nat):Int) (strF k)):=by unfold apartS;rw [if_neg (by decide),str_wA]
 have eB:apartS strTr 6 6 1 strB=(1,none):=by unfold apartS;rw [if_neg (by decide),str_wB]
 have eC:apartS strTr 6 8 7 strC=(2,none):=by unfold apartS;rw [if_pos (by decide)]
 rw [str_feedR]
 unfold Sp.overR recsA
 simp only [eA,eB,eC]
theorem str_recsB:Sp.closeR (apartS strTr 6) ⟨3,16,2,strD⟩=recsB:=by
 have eD:apartS strTr 6 16 2 strD=(0,some fun k=>Sp.mv ((16:Nat):Int) (strG k)):=by unfold apartS;rw [if_neg (by decide),str_wD]
 unfold Sp.closeR
 rw [if_neg (by decide)]
 unfold Sp.overR recsB
 simp only [eD]
theorem str_spA:spArr 3 (fun k=>Sp.mv ((0:Nat):Int) (strF k))=#[.int .i64 0,.int .i64 5,.int .i64 0,.int .i64 2,.int .i64 3,.int .i64 5]:=by kernel_rfl
theorem str_spB:spArr 3 (fun k=>Sp.mv ((16:Nat):Int) (strG k))=#[.int .i64 16,.int .i64 18,.int .i64 16,.int .i64 17,.int .i64 18,.int .i64 18]:=by kernel_rfl
def strCells:Array Value:=#[.int .u8 97,.int .u8 98,.int .u8 61,.int .u8 49,.int .u8 50,.int .u8 10,.int .u8 120,.int .u8 10,.int .u8 97,.int .u8 98,.int .u8 99,.int .u8 61,.int .u8 49,.int .u8 50,.int .u8 51,.int .u8 10,.int .u8 113,.int .u8 61]
theorem strCells_is:strCells=(strK.map byteV).toArray:=by kernel_rfl
theorem litA (w:World):RecsAt ((w.alloc (.cells #[.int .i64 0,.int .i64 5,.int .i64 0,.int .i64 2,.int .i64 3,.int .i64 5] 66)).alloc (.cells #[.int .i64 0,.int .i64 0,.int .i64 5,.int .i64 0,.slice (some ⟨w.heap.size,0,none⟩) 3 3,.int .i64 1,.int .i64 6,.int .i64 1,.int .i64 1,.slice none 0 0,.int .i64 2,.int .i64 8,.int .i64 7,.int .i64 2,.slice none 0 0] 94)) w.heap.size (.slice (some ⟨w.heap.size+1,0,none⟩) 3 3) 3 recsA:=by
 have hz:(w.alloc (.cells #[.int .i64 0,.int .i64 5,.int .i64 0,.int .i64 2,.int .i64 3,.int .i64 5] 66)).heap.size=w.heap.size+1:=by show (w.heap.push _).size=_;simp
 have hz2:((w.alloc (.cells #[.int .i64 0,.int .i64 5,.int .i64 0,.int .i64 2,.int .i64 3,.int .i64 5] 66)).alloc (.cells #[.int .i64 0,.int .i64 0,.int .i64 5,.int .i64 0,.slice (some ⟨w.heap.size,0,none⟩) 3 3,.int .i64 1,.int .i64 6,.int .i64 1,.int .i64 1,.slice none 0 0,.int .i64 2,.int .i64 8,.int .i64 7,.int .i64 2,.slice none 0 0] 94)).heap.size=w.heap.size+2:=by show ((w.heap.push _).push _).size=_;simp
 have hs:((w.alloc (.cells #[.int .i64 0,.int .i64 5,.int .i64 0,.int .i64 2,.int .i64 3,.int .i64 5] 66)).alloc (.cells #[.int .i64 0,.int .i64 0,.int .i64 5,.int .i64 0,.slice (some ⟨w.heap.size,0,none⟩) 3 3,.int .i64 1,.int .i64 6,.int .i64 1,.int .i64 1,.slice none 0 0,.int .i64 2,.int .i64 8,.int .i64 7,.int .i64 2,.slice none 0 0] 94)).heap[w.heap.size]?=some (.cells #[.int .i64 0,.int .i64 5,.int .i64 0,.int .i64 2,.int .i64 3,.int .i64 5] 66 (0,0)):=(Below.heap_alloc _ _ _ (by rw [hz];omega)).trans (heap_new rfl)
 refine⟨[.int .i64 0,.int .i64 0,.int .i64 5,.int .i64 0,.slice (some ⟨w.heap.size,0,none⟩) 3 3,.int .i64 1,.int .i64 6,.int .i64 1,.int .i64 1,.slice none 0 0,.int .i64 2,.int .i64 8,.int .i64 7,.int .i64 2,.slice none 0 0],w.heap.size+2,⟨rfl,Or.inr ⟨w.heap.size+1,3,#[.int .i64 0,.int .i64 0,.int .i64 5,.int .i64 0,.slice (some ⟨w.heap.size,0,none⟩) 3 3,.int .i64 1,.int .i64 6,.int .i64 1,.int .i64 1,.slice none 0 0,.int .i64 2,.int .i64 8,.int .i64 7,.int .i64 2,.slice none 0 0],rfl,by omega,heap_new hz.symm,by decide,by unfold maxLen;decide,rfl,rfl⟩⟩,?_,by rw [hz2];exact Nat.le_refl _⟩
 refine⟨some ⟨w.heap.size,0,none⟩,3,_,w.heap.size+1,rfl,⟨w.heap.size,rfl,rfl,?_⟩,⟨by omega,fun q o s e=>(by cases e;omega)⟩,none,0,_,w.heap.size+1,rfl,⟨rfl,rfl⟩,⟨Nat.le_refl _,fun q o s e=>(by cases e)⟩,none,0,[],w.heap.size+1,rfl,⟨rfl,rfl⟩,⟨Nat.le_refl _,fun q o s e=>(by cases e)⟩,rfl,by omega⟩
 show _=_
 rw [hs,str_spA]
theorem litB (w:World):RecsAt ((w.alloc (.cells #[.int .i64 16,.int .i64 18,.int .i64 16,.int .i64 17,.int .i64 18,.int .i64 18] 66)).alloc (.cells #[.int .i64 3,.int .i64 16,.int .i64 2,.int .i64 0,.slice (some ⟨w.heap.size,0,none⟩) 3 3] 94)) w.heap.size (.slice (some ⟨w.heap.size+1,0,none⟩) 1 1) 3 recsB:=by
 have hz:(w.alloc (.cells #[.int .i64 16,.int .i64 18,.int .i64 16,.int .i64 17,.int .i64 18,.int .i64 18] 66)).heap.size=w.heap.size+1:=by show (w.heap.push _).size=_;simp
 have hz2:((w.alloc (.cells #[.int .i64 16,.int .i64 18,.int .i64 16,.int .i64 17,.int .i64 18,.int .i64 18] 66)).alloc (.cells #[.int .i64 3,.int .i64 16,.int .i64 2,.int .i64 0,.slice (some ⟨w.heap.size,0,none⟩) 3 3] 94)).heap.size=w.heap.size+2:=by show ((w.heap.push _).push _).size=_;simp
 have hs:((w.alloc (.cells #[.int .i64 16,.int .i64 18,.int .i64 16,.int .i64 17,.int .i64 18,.int .i64 18] 66)).alloc (.cells #[.int .i64 3,.int .i64 16,.int .i64 2,.int .i64 0,.slice (some ⟨w.heap.size,0,none⟩) 3 3] 94)).heap[w.heap.size]?=some (.cells #[.int .i64 16,.int .i64 18,.int .i64 16,.int .i64 17,.int .i64 18,.int .i64 18] 66 (0,0)):=(Below.heap_alloc _ _ _ (by rw [hz];omega)).trans (heap_new rfl)
 refine⟨[.int .i64 3,.int .i64 16,.int .i64 2,.int .i64 0,.slice (some ⟨w.heap.size,0,none⟩) 3 3],w.heap.size+2,⟨rfl,Or.inr ⟨w.heap.size+1,1,#[.int .i64 3,.int .i64 16,.int .i64 2,.int .i64 0,.slice (some ⟨w.heap.size,0,none⟩) 3 3],rfl,by omega,heap_new hz.symm,by decide,by unfold maxLen;decide,rfl,rfl⟩⟩,?_,by rw [hz2];exact Nat.le_refl _⟩
 refine⟨some ⟨w.heap.size,0,none⟩,3,[],w.heap.size+1,rfl,⟨w.heap.size,rfl,rfl,?_⟩,⟨by omega,fun q o s e=>(by cases e;omega)⟩,rfl,by omega⟩
 show _=_
 rw [hs,str_spB]
set_option maxRecDepth 8000 in
set_option maxHeartbeats 3200000 in
theorem streams_any (w:World):Calls Tryz.prog 15 #[] w fun e w'=>e=.returned (.bool true)∧Upd [] w w':=by
 go_enter Tryz.func15,Tryz.ntmps15
 go_wp2_with fail
 refine (sComp_yes strP strTr 2 _ str_read).mono ?_
 rintro e w1 ⟨p,rfl,hp,P1,u1⟩
 have U1:Hid (Upd [] w w1):=u1
 have HP1:Hid (PatAt w1 p strTr 2):=P1
 clear u1 P1
 go_wp2_with fail
 refine (sOpen_at p 6 _ (by omega)).mono ?_
 rintro e w2 ⟨s,c,g,cap,rfl,hg,hgc,hcs,hs2,S2,C2,u2⟩
 have U2:Hid (Upd [] w w2):=U1.out.trans u2
 have HP2:Hid (PatAt w2 p strTr 2):=HP1.out.upd u2
 have HS2:Hid (StAt w2 s c):=S2
 have HC2:Hid (CuSt w2 c p 6 g 0 cap cu0):=C2
 have HZ:Hid (w1.heap.size≤g∧g < c∧c < s∧s < w2.heap.size):=⟨hg,hgc,hcs,hs2⟩
 clear u2 S2 C2 hg hgc hcs hs2
 have hcv:=Go.Lib.run_convert_bytes_const (P:=Tryz.prog) w2 97 5 #[.int .u8 97,.int .u8 98,.int .u8 61,.int .u8 49,.int .u8 50,.int .u8 10,.int .u8 120,.int .u8 10,.int .u8 97,.int .u8 98,.int .u8 99,.int .u8 61,.int .u8 49,.int .u8 50,.int .u8 51,.int .u8 10,.int .u8 113,.int .u8 61] 18 18 Tryz.underlying97 Tryz.underlying5
 have B3:Hid (BytesAt (w2.alloc (.cells #[.int .u8 97,.int .u8 98,.int .u8 61,.int .u8 49,.int .u8 50,.int .u8 10,.int .u8 120,.int .u8 10,.int .u8 97,.int .u8 98,.int .u8 99,.int .u8 61,.int .u8 49,.int .u8 50,.int .u8 51,.int .u8 10,.int .u8 113,.int .u8 61] 5 ((#[.int .u8 97,.int .u8 98,.int .u8 61,.int .u8 49,.int .u8 50,.int .u8 10,.int .u8 120,.int .u8 10,.int .u8 97,.int .u8 98,.int .u8 99,.int .u8 61,.int .u8 49,.int .u8 50,.int .u8 51,.int .u8 10,.int .u8 113,.int .u8 61]:Array Value).size,(#[.int .u8 97,.int .u8 98,.int .u8 61,.int .u8 49,.int .u8 50,.int .u8 10,.int .u8 120,.int .u8 10,.int .u8 97,.int .u8 98,.int .u8 99,.int .u8 61,.int .u8 49,.int .u8 50,.int .u8 51,.int .u8 10,.int .u8 113,.int .u8 61]:Array Value).size+1))) w2.heap.size 0 strK):=fun j x hx=>by
  rw [Nat.zero_add,World.cell?_alloc_mark]
  show strCells[j]?=_
  rw [strCells_is,List.getElem?_toArray,List.getElem?_map,hx];rfl
 have U3:Hid (Upd [] w2 (w2.alloc (.cells #[.int .u8 97,.int .u8 98,.int .u8 61,.int .u8 49,.int .u8 50,.int .u8 10,.int .u8 120,.int .u8 10,.int .u8 97,.int .u8 98,.int .u8 99,.int .u8 61,.int .u8 49,.int .u8 50,.int .u8 51,.int .u8 10,.int .u8 113,.int .u8 61] 5 ((#[.int .u8 97,.int .u8 98,.int .u8 61,.int .u8 49,.int .u8 50,.int .u8 10,.int .u8 120,.int .u8 10,.int .u8 97,.int .u8 98,.int .u8 99,.int .u8 61,.int .u8 49,.int .u8 50,.int .u8 51,.int .u8 10,.int .u8 113,.int .u8 61]:Array Value).size,(#[.int .u8 97,.int .u8 98,.int .u8 61,.int .u8 49,.int .u8 50,.int .u8 10,.int .u8 120,.int .u8 10,.int .u8 97,.int .u8 98,.int .u8 99,.int .u8 61,.int .u8 49,.int .u8 50,.int .u8 51,.int .u8 10,.int .u8 113,.int .u8 61]:Array Value).size+1)))):=Upd.alloc (Upd.refl _ _) _
 have L3:Hid (w2.heap.size < (w2.alloc (.cells #[.int .u8 97,.int .u8 98,.int .u8 61,.int .u8 49,.int .u8 50,.int .u8 10,.int .u8 120,.int .u8 10,.int .u8 97,.int .u8 98,.int .u8 99,.int .u8 61,.int .u8 49,.int .u8 50,.int .u8 51,.int .u8 10,.int .u8 113,.int .u8 61] 5 ((#[.int .u8 97,.int .u8 98,.int .u8 61,.int .u8 49,.int .u8 50,.int .u8 10,.int .u8 120,.int .u8 10,.int .u8 97,.int .u8 98,.int .u8 99,.int .u8 61,.int .u8 49,.int .u8 50,.int .u8 51,.int .u8 10,.int .u8 113,.int .u8 61]:Array Value).size,(#[.int .u8 97,.int .u8 98,.int .u8 61,.int .u8 49,.int .u8 50,.int .u8 10,.int .u8 120,.int .u8 10,.int .u8 97,.int .u8 98,.int .u8 99,.int .u8 61,.int .u8 49,.int .u8 50,.int .u8 51,.int .u8 10,.int .u8 113,.int .u8 61]:Array Value).size+1))).heap.size):=by show w2.heap.size < (w2.heap.push _).size;simp
 generalize w2.alloc (.cells #[.int .u8 97,.int .u8 98,.int .u8 61,.int .u8 49,.int .u8 50,.int .u8 10,.int .u8 120,.int .u8 10,.int .u8 97,.int .u8 98,.int .u8 99,.int .u8 61,.int .u8 49,.int .u8 50,.int .u8 51,.int .u8 10,.int .u8 113,.int .u8 61] 5 ((#[.int .u8 97,.int .u8 98,.int .u8 61,.int .u8 49,.int .u8 50,.int .u8 10,.int .u8 120,.int .u8 10,.int .u8 97,.int .u8 98,.int .u8 99,.int .u8 61,.int .u8 49,.int .u8 50,.int .u8 51,.int .u8 10,.int .u8 113,.int .u8 61]:Array Value).size,(#[.int .u8 97,.int .u8 98,.int .u8 61,.int .u8 49,.int .u8 50,.int .u8 10,.int .u8 120,.int .u8 10,.int .u8 97,.int .u8 98,.int .u8 99,.int .u8 61,.int .u8 49,.int .u8 50,.int .u8 51,.int .u8 10,.int .u8 113,.int .u8 61]:Array Value).size+1))=w3 at *
 go_wp2_with fail
 have S3:StAt w3 s c:=(U3.out.block s HZ.out.2.2.2 (by simp)).trans HS2.out
 have C3:CuSt w3 c p 6 g 0 cap cu0:=CuAt.blocks HC2.out (U3.out.block c (lt_of_heap HC2.out.cell) (by simp)) (fun k hk=>U3.out.block k (ownBlock_lt HC2.out.held hk).1 (by simp))
 have P3:=HP2.out.upd U3.out
 have lcg:LTy strT w3 [c,g]:=LTy.cons (CuAt.ty C3) rfl (LTy.cons (CuAt.tyg C3) rfl (LTy.nil _ _))
 refine (stFeed_any s c p 6 g 0 cap strTr 2 w2.heap.size 0 18 cu0 strK w3 (by omega) (by decide) (by decide) (by decide) (by decide) rfl B3.out S3 C3 (fun w5 u=>P3.frame (u.pat lcg strT_not)) L3.out (by have:=HZ.out;omega) (by have:=HZ.out;omega)).mono ?_
 rintro e w4 ⟨v4,rfl,F⟩
 obtain⟨g',h',cap',hg',C4⟩:=F.cut
 have R4:=F.recs
 rw [str_recsA] at R4
 rw [str_feedC] at C4
 have HR4:Hid (RecsAt w4 w3.heap.size v4 3 recsA):=R4
 have HC4:Hid (CuSt w4 c p 6 g' h' cap' ⟨3,16,2,strD⟩):=C4
 have HP4:Hid (PatAt w4 p strTr 2):=P3.frame (F.upd.pat lcg strT_not)
 have HS4:Hid (StAt w4 s c):=(F.upd.block s (lt_of_heap S3) (by simp;have:=HZ.out;omega)).trans S3
 have U4:Hid (Upd [c,g] w3 w4):=F.upd
 obtain⟨a4,c4,hv4,_⟩:=R4.slice
 subst hv4
 clear F R4 C4 S3 C3 P3 lcg hg' hcv
 go_wp2_with fail
 refine (stClose_any s c p 6 g' h' cap' strTr 2 ⟨3,16,2,strD⟩ w4 (by omega) (by decide) (by decide) rfl HS4.out HC4.out HP4.out).mono ?_
 rintro e w5 ⟨v5,rfl,F,_⟩
 have R5:=F.recs
 rw [str_recsB] at R5
 have HR5:Hid (RecsAt w5 w4.heap.size v5 3 recsB):=R5
 have U5:Hid (Upd [c,s] w4 w5):=F.upd
 have HR5':Hid (RecsAt w5 w3.heap.size (.slice a4 recsA.length c4) 3 recsA):=HR4.out.low F.upd (fun k hk=>by
  have e:k=c∨k=s:=by simpa using hk
  have:=HZ.out;have:=L3.out;omega)
 obtain⟨a5,c5,hv5,_⟩:=R5.slice
 subst hv5
 clear F R5
 have LA:Hid (RecsAt ((w5.alloc (.cells #[.int .i64 0,.int .i64 5,.int .i64 0,.int .i64 2,.int .i64 3,.int .i64 5] 66)).alloc (.cells #[.int .i64 0,.int .i64 0,.int .i64 5,.int .i64 0,.slice (some ⟨w5.heap.size,0,none⟩) 3 3,.int .i64 1,.int .i64 6,.int .i64 1,.int .i64 1,.slice none 0 0,.int .i64 2,.int .i64 8,.int .i64 7,.int .i64 2,.slice none 0 0] 94)) w5.heap.size (.slice (some ⟨w5.heap.size+1,0,none⟩) 3 3) 3 recsA):=litA w5
 have UA:Hid (Upd [] w5 ((w5.alloc (.cells #[.int .i64 0,.int .i64 5,.int .i64 0,.int .i64 2,.int .i64 3,.int .i64 5] 66)).alloc (.cells #[.int .i64 0,.int .i64 0,.int .i64 5,.int .i64 0,.slice (some ⟨w5.heap.size,0,none⟩) 3 3,.int .i64 1,.int .i64 6,.int .i64 1,.int .i64 1,.slice none 0 0,.int .i64 2,.int .i64 8,.int .i64 7,.int .i64 2,.slice none 0 0] 94))):=Upd.alloc (Upd.alloc (Upd.refl _ _) _) _
 go_wp2_with fail
 generalize (w5.alloc (.cells #[.int .i64 0,.int .i64 5,.int .i64 0,.int .i64 2,.int .i64 3,.int .i64 5] 66)).alloc (.cells #[.int .i64 0,.int .i64 0,.int .i64 5,.int .i64 0,.slice (some ⟨w5.heap.size,0,none⟩) 3 3,.int .i64 1,.int .i64 6,.int .i64 1,.int .i64 1,.slice none 0 0,.int .i64 2,.int .i64 8,.int .i64 7,.int .i64 2,.slice none 0 0] 94)=w6 at *
 refine (sameR_any _ _ recsA _ _ _ 3 (by omega) (by decide) (HR5'.out.upd UA.out) LA.out).mono ?_
 rintro e w7 ⟨rfl,u7⟩
 have U7:Hid (Upd [] w5 w7):=UA.out.trans u7
 clear u7
 have LB:Hid (RecsAt ((w7.alloc (.cells #[.int .i64 16,.int .i64 18,.int .i64 16,.int .i64 17,.int .i64 18,.int .i64 18] 66)).alloc (.cells #[.int .i64 3,.int .i64 16,.int .i64 2,.int .i64 0,.slice (some ⟨w7.heap.size,0,none⟩) 3 3] 94)) w7.heap.size (.slice (some ⟨w7.heap.size+1,0,none⟩) 1 1) 3 recsB):=litB w7
 have UB:Hid (Upd [] w7 ((w7.alloc (.cells #[.int .i64 16,.int .i64 18,.int .i64 16,.int .i64 17,.int .i64 18,.int .i64 18] 66)).alloc (.cells #[.int .i64 3,.int .i64 16,.int .i64 2,.int .i64 0,.slice (some ⟨w7.heap.size,0,none⟩) 3 3] 94))):=Upd.alloc (Upd.alloc (Upd.refl _ _) _) _
 go_wp2_with fail
 generalize (w7.alloc (.cells #[.int .i64 16,.int .i64 18,.int .i64 16,.int .i64 17,.int .i64 18,.int .i64 18] 66)).alloc (.cells #[.int .i64 3,.int .i64 16,.int .i64 2,.int .i64 0,.slice (some ⟨w7.heap.size,0,none⟩) 3 3] 94)=w8 at *
 refine (sameR_any _ _ recsB _ _ _ 3 (by omega) (by decide) (HR5.out.upd (U7.out.trans UB.out)) LB.out).mono ?_
 rintro e w9 ⟨rfl,u9⟩
 have UF:Hid (Upd [] w w9):=by
  have hz:=HZ.out
  have z1:=U1.out.size
  have a1:Upd [c,g,s] w3 w9:=((U4.out.mono (by simp)).trans (U5.out.mono (by simp))).trans (((U7.out.trans UB.out).trans u9).mono (by simp))
  have a2:=U2.out.trans U3.out
  exact⟨a1.os.trans a2.os,a1.tape.trans a2.tape,a1.output.trans a2.output,Nat.le_trans a2.size a1.size,fun k hk hn=>(a1.block k (Nat.lt_of_lt_of_le hk a2.size) (by simp;omega)).trans (a2.block k hk hn)⟩
 clear u9
 go_wp2_with fail
 go_ret
 exact⟨rfl,UF.out⟩
structure Opv where
 k:Int
 s:Int
 n:Int
 t:ByteArray
structure Pr where
 p:Nat
 q:Nat
 src:ByteArray
 t:Tr
 n:Nat
def prV (x:Pr):List Value:=[.pointer (some ⟨x.p,0,none⟩),.pointer (some ⟨x.q,0,none⟩)]
def tot (f:Nat→Opv):Nat→Nat
 | 0=>0
 | c+1=>tot f c+(f c).t.size
structure AlSt (W wr:World) (b:Nat) (f:Nat→Opv) (c:Nat) (va vp:Value) (l:List (Option Tw)) (ps:List Pr) (kS kR:Nat) (n:Int) (vS vN vR vQ:Value) (es rs:List (Value×Int)):Prop where
 bk:BkA W.heap.size wr b kS kR n vS vN vR vQ es rs
 ra:wr.ownsRow W.heap.size 55 2 va l.length (l.flatMap twV)
 rp:wr.ownsRow W.heap.size 51 2 vp ps.length (ps.flatMap prV)
 tw:∀ (i:Nat) o,l[i]?=some o→TwO W.heap.size wr o
 dis:∀ (i j:Nat) o o',i≠j→l[i]?=some o→l[j]?=some o'→∀ k,k∈blkO o→k∉blkO o'
 pr:∀ x∈ps,PatAt wr x.p x.t x.n∧RfPat wr x.q x.src x.t x.n
 up:Upd [] W wr
 sz:∀ (i:Nat) x,l[i]?=some (some x)→x.A.size≤tot f c
 hS:kS≤4 * tot f c+8 * c
 hR:kR≤4 * c
 hn:0≤n∧n≤tot f c+2 * c
 la:l.length≤c
 lp:ps.length≤c
structure AlInv (W:World) (b:Nat) (f:Nat→Opv) (len gn:Nat) (va vp vi:Value) (wr:World):Prop where
 st:∃ (c:Nat) (l:List (Option Tw)) (ps:List Pr) (kS kR:Nat) (n:Int) (vS vN vR vQ:Value) (es rs:List (Value×Int)),vi=.int .i64 c∧c+gn=len∧AlSt W wr b f c va vp l ps kS kR n vS vN vR vQ es rs
theorem tot_mono (f:Nat→Opv) {a b:Nat} (h:a≤b):tot f a≤tot f b:=by
 induction h with
 | refl=>exact Nat.le_refl _
 | step _ ih=>exact Nat.le_trans ih (Nat.le_add_right _ _)
theorem BkA.new (w:World):BkA w.heap.size (w.alloc (.cells #[.int .i64 0,.slice none 0 0,.slice none 0 0,.slice none 0 0,.slice none 0 0] 36)) w.heap.size 0 0 0 (.slice none 0 0) (.slice none 0 0) (.slice none 0 0) (.slice none 0 0) [] []:=
 ⟨⟨heap_new rfl,⟨rfl,Or.inl ⟨rfl,rfl⟩⟩,⟨rfl,Or.inl ⟨rfl,rfl⟩⟩,Nat.le_refl _,(fun x hx=>absurd hx (by simp)),(fun x hx=>absurd hx (by simp))⟩,⟨rfl,Or.inl ⟨rfl,rfl⟩⟩,⟨rfl,Or.inl ⟨rfl,rfl⟩⟩,(fun g hg=>by cases hg),(fun x hx=>absurd hx (by simp)),(fun x hx=>absurd hx (by simp))⟩
theorem AlSt.new (w:World) (f:Nat→Opv):AlSt w (w.alloc (.cells #[.int .i64 0,.slice none 0 0,.slice none 0 0,.slice none 0 0,.slice none 0 0] 36)) w.heap.size f 0 (.slice none 0 0) (.slice none 0 0) [] [] 0 0 0 (.slice none 0 0) (.slice none 0 0) (.slice none 0 0) (.slice none 0 0) [] []:=
 ⟨BkA.new w,⟨rfl,Or.inl ⟨rfl,rfl⟩⟩,⟨rfl,Or.inl ⟨rfl,rfl⟩⟩,(fun i o h=>by simp at h),(fun i j o o' _ h=>by simp at h),(fun x hx=>absurd hx (by simp)),Upd.alloc (Upd.refl _ _) _,(fun i x h=>by simp at h),Nat.zero_le _,Nat.zero_le _,⟨by omega,by omega⟩,Nat.zero_le _,Nat.zero_le _⟩
theorem AlSt.upd0 {W wr w':World} {b:Nat} {f:Nat→Opv} {c:Nat} {va vp:Value} {l:List (Option Tw)} {ps:List Pr} {kS kR:Nat} {n:Int} {vS vN vR vQ:Value} {es rs:List (Value×Int)} (h:AlSt W wr b f c va vp l ps kS kR n vS vN vR vQ es rs) (u:Upd [] wr w'):AlSt W w' b f c va vp l ps kS kR n vS vN vR vQ es rs:=
 ⟨h.bk.upd0 u,ownsRow_same h.ra (fun k _ hlt=>u.block k hlt (by simp)),ownsRow_same h.rp (fun k _ hlt=>u.block k hlt (by simp)),fun i o hi=>(h.tw i o hi).keep0 u,h.dis,fun x hx=>⟨(h.pr x hx).1.upd u,(h.pr x hx).2.upd u⟩,h.up.trans u,h.sz,h.hS,h.hR,h.hn,h.la,h.lp⟩
theorem AlSt.next {W wr:World} {b:Nat} {f:Nat→Opv} {c:Nat} {va vp:Value} {l:List (Option Tw)} {ps:List Pr} {kS kR:Nat} {n:Int} {vS vN vR vQ:Value} {es rs:List (Value×Int)} (h:AlSt W wr b f c va vp l ps kS kR n vS vN vR vQ es rs):AlSt W wr b f (c+1) va vp l ps kS kR n vS vN vR vQ es rs:=by
 have e:tot f (c+1)=tot f c+(f c).t.size:=rfl
 exact⟨h.bk,h.ra,h.rp,h.tw,h.dis,h.pr,h.up,fun i x hi=>by have:=h.sz i x hi;omega,by have:=h.hS;omega,by have:=h.hR;omega,⟨h.hn.1,by have:=h.hn.2;omega⟩,Nat.le_trans h.la (by omega),Nat.le_trans h.lp (by omega)⟩
def rowT (T:TypeId):Bool:=T == 55 || T == 51
theorem rowT_is {T:TypeId} (h:rowT T=true):T=55∨T=51:=by simpa [rowT] using h
theorem rowT_not:NotPat rowT:=fun T h=>by rcases patT_is h with rfl|rfl|rfl|rfl|rfl<;>rfl
theorem bok_row:∀ T,bokT T=true→rowT T=false:=fun T h=>by rcases bokT_is h with rfl|rfl|rfl|rfl|rfl|rfl<;>rfl
theorem str_row {T:TypeId} (h:strT T=true):rowT T=false:=by rcases strT_is h with rfl|rfl|rfl|rfl<;>rfl
theorem row_bok {T:TypeId} (h:rowT T=true):bokT T=false:=by rcases rowT_is h with rfl|rfl<;>rfl
theorem row_str {T:TypeId} (h:rowT T=true):strT T=false:=by rcases rowT_is h with rfl|rfl<;>rfl
theorem TwO.keepR {B0:Nat} {w w':World} {o:Option Tw} {l:List Nat} (h:TwO B0 w o) (u:Upd l w w') (hl:LTy rowT w l):TwO B0 w' o:=by
 cases o with
 | none=>trivial
 | some x=>
  have hx:TwAt B0 w x:=h
  have hb:∀ k,k∈x.blks→w'.heap[k]?=w.heap[k]?:=fun k hk=>by
   obtain⟨_,h2,T,h3,h4⟩:=hx.lt k hk
   exact u.ty hl h3 (str_row h4)
  have hs:=hb x.s (by simp [Tw.blks])
  have hc:=hb x.c (by simp [Tw.blks])
  have hg:=hb x.g (by simp [Tw.blks])
  have hr:=hb x.r (by simp [Tw.blks])
  refine (⟨fun e=>?_,fun e=>?_,fun k hk=>?_,hx.pat.frame (u.pat hl rowT_not),hx.rf.frame (u.pat hl rowT_not),hx.str,hx.fit,hx.lim,hx.num⟩:TwAt B0 w' x)
  ·obtain⟨a1,a2,a3⟩:=hx.op e
   exact⟨hs.trans a1,CuAt.blocks a2 hc (fun k hk=>by simp [Value.ownBlock] at hk;rw [← hk];exact hg),hr.trans a3⟩
  ·obtain⟨a1,told,num,a2⟩:=hx.sh e
   exact⟨hs.trans a1,told,num,hr.trans a2⟩
  ·obtain⟨h1,h2,T,⟨a,ha⟩,h4⟩:=hx.lt k hk
   exact⟨h1,Nat.lt_of_lt_of_le h2 u.size,T,⟨a,(hb k hk).trans ha⟩,h4⟩
theorem own_lty {w:World} {B0 n z:Nat} {T:TypeId} {v:Value} {xs:List Value} (h:w.ownsRow B0 T z v n xs) (hT:rowT T=true):LTy rowT w v.ownBlock.toList:=fun k hk=>⟨T,own_tyP h (by simpa using hk),hT⟩
theorem grown_low {W wr w':World} {n z:Nat} {T:TypeId} {v:Value} {xs:List Value} (u:Upd [] W wr) (h:wr.ownsRow W.heap.size T z v n xs) (g:wr.grownBy w' v.ownBlock):Upd [] W w':=low_grown u g (fun q hq=>Or.inr (ownBlock_lt h hq).2)
theorem AlSt.moreP {W wr w':World} {b:Nat} {f:Nat→Opv} {c:Nat} {va vp vp':Value} {l:List (Option Tw)} {ps:List Pr} {kS kR:Nat} {n:Int} {vS vN vR vQ:Value} {es rs:List (Value×Int)} (h:AlSt W wr b f c va vp l ps kS kR n vS vN vR vQ es rs) (x:Pr) (hx:PatAt wr x.p x.t x.n∧RfPat wr x.q x.src x.t x.n) (hown:w'.ownsRow W.heap.size 51 2 vp' (ps.length+1) (ps.flatMap prV++prV x)) (hg:wr.grownBy w' vp.ownBlock):AlSt W w' b f (c+1) va vp' l (ps++[x]) kS kR n vS vN vR vQ es rs:=by
 have u:=Upd.of_grown hg
 have hl:=own_lty h.rp (by decide)
 have e:tot f (c+1)=tot f c+(f c).t.size:=rfl
 refine⟨h.bk.upd u hl bok_row,ownsRow_same h.ra (fun k hk hlt=>u.block k hlt (fun hm=>TyIs.ne (own_tyP h.ra hk) (own_tyP h.rp (by simpa using hm)) (by decide) rfl)),?_,fun i o hi=>(h.tw i o hi).keepR u hl,h.dis,fun y hy=>?_,grown_low h.up h.rp hg,fun i x hi=>by have:=h.sz i x hi;omega,by have:=h.hS;omega,by have:=h.hR;omega,⟨h.hn.1,by have:=h.hn.2;omega⟩,Nat.le_trans h.la (by omega),by have:=h.lp;rw [List.length_append];simp;omega⟩
 ·rw [List.length_append,List.flatMap_append];simpa using hown
 ·have hy':y∈ps∨y=x:=by simpa using hy
  rcases hy' with q|rfl
  ·exact⟨(h.pr y q).1.frame (u.pat hl rowT_not),(h.pr y q).2.frame (u.pat hl rowT_not)⟩
  ·exact⟨hx.1.frame (u.pat hl rowT_not),hx.2.frame (u.pat hl rowT_not)⟩
theorem get_append {α:Type} {l:List α} {x y:α} {i:Nat} (h:(l++[x])[i]?=some y):l[i]?=some y∨(i=l.length∧y=x):=by
 rcases Nat.lt_or_ge i l.length with q|q
 ·left;rw [List.getElem?_append_left q] at h;exact h
 ·right
  rw [List.getElem?_append_right q] at h
  have hi:i - l.length=0:=by
   rcases Nat.eq_zero_or_pos (i - l.length) with e|e
   ·exact e
   ·rw [List.getElem?_eq_none (by simp;omega)] at h;cases h
  rw [hi] at h
  exact⟨by omega,by simpa using h.symm⟩
theorem AlSt.moreA {W wr w':World} {b:Nat} {f:Nat→Opv} {c:Nat} {va vp va':Value} {l:List (Option Tw)} {ps:List Pr} {kS kR:Nat} {n:Int} {vS vN vR vQ:Value} {es rs:List (Value×Int)} (h:AlSt W wr b f c va vp l ps kS kR n vS vN vR vQ es rs) (o:Option Tw) (ho:TwO W.heap.size wr o) (hd:∀ (i:Nat) o',l[i]?=some o'→∀ k,k∈blkO o→k∉blkO o') (hz:∀ x,o=some x→x.A.size=0) (hown:w'.ownsRow W.heap.size 55 2 va' (l.length+1) (l.flatMap twV++twV o)) (hg:wr.grownBy w' va.ownBlock):AlSt W w' b f (c+1) va' vp (l++[o]) ps kS kR n vS vN vR vQ es rs:=by
 have u:=Upd.of_grown hg
 have hl:=own_lty h.ra (by decide)
 have e:tot f (c+1)=tot f c+(f c).t.size:=rfl
 refine⟨h.bk.upd u hl bok_row,?_,ownsRow_same h.rp (fun k hk hlt=>u.block k hlt (fun hm=>TyIs.ne (own_tyP h.rp hk) (own_tyP h.ra (by simpa using hm)) (by decide) rfl)),fun i o' hi=>?_,fun i j o1 o2 hij h1 h2 k hk hk2=>?_,fun y hy=>⟨(h.pr y hy).1.frame (u.pat hl rowT_not),(h.pr y hy).2.frame (u.pat hl rowT_not)⟩,grown_low h.up h.ra hg,fun i x hi=>?_,by have:=h.hS;omega,by have:=h.hR;omega,⟨h.hn.1,by have:=h.hn.2;omega⟩,by have:=h.la;rw [List.length_append];simp;omega,Nat.le_trans h.lp (by omega)⟩
 ·rw [List.length_append,List.flatMap_append];simpa using hown
 ·rcases get_append hi with q|⟨_,rfl⟩
  ·exact (h.tw i o' q).keepR u hl
  ·exact ho.keepR u hl
 ·rcases get_append h1 with q1|⟨e1,rfl⟩
  ·rcases get_append h2 with q2|⟨e2,rfl⟩
   ·exact h.dis i j o1 o2 hij q1 q2 k hk hk2
   ·exact hd i o1 q1 k hk2 hk
  ·rcases get_append h2 with q2|⟨e2,rfl⟩
   ·exact hd j o2 q2 k hk hk2
   ·omega
 ·rcases get_append hi with q|⟨_,q⟩
  ·have:=h.sz i x q;omega
  ·have:=hz x q.symm;omega
theorem AlSt.book {W wr w':World} {b:Nat} {f:Nat→Opv} {c:Nat} {va vp:Value} {l:List (Option Tw)} {ps:List Pr} {kS kR:Nat} {n:Int} {vS vN vR vQ vS' vN':Value} {es rs es':List (Value×Int)} (h:AlSt W wr b f c va vp l ps kS kR n vS vN vR vQ es rs) (F:Bf W.heap.size wr w') (A:BkA W.heap.size w' b (kS+4) kR (n+1) vS' vN' vR vQ es' rs):AlSt W w' b f (c+1) va vp l ps (kS+4) kR (n+1) vS' vN' vR vQ es' rs:=by
 have e:tot f (c+1)=tot f c+(f c).t.size:=rfl
 refine⟨A,ownsRow_same h.ra (fun k hk hlt=>F.ty (own_tyP h.ra hk) (by decide)),ownsRow_same h.rp (fun k hk hlt=>F.ty (own_tyP h.rp hk) (by decide)),fun i o hi=>?_,h.dis,fun y hy=>⟨(h.pr y hy).1.frame F.pat,(h.pr y hy).2.frame F.pat⟩,F.low h.up (Nat.le_refl _),fun i x hi=>by have:=h.sz i x hi;omega,by have:=h.hS;omega,by have:=h.hR;omega,⟨by have:=h.hn.1;omega,by have:=h.hn.2;omega⟩,Nat.le_trans h.la (by omega),Nat.le_trans h.lp (by omega)⟩
 have ho:=h.tw i o hi
 cases o with
 | none=>trivial
 | some x=>exact TwAt.keep ho (Sf.bf (l:=[]) F) (LTy.nil _ _) (by simp)
theorem flat_set {α β:Type} (g:α→List β):∀ (l:List α) (k:Nat) (o o':α),l[k]?=some o→g o'=g o→(l.set k o').flatMap g=l.flatMap g
 | [],k,o,o',h,_=>by simp at h
 | x::l,0,o,o',h,hg=>by
  have e:x=o:=by simpa using h
  subst e
  simp [hg]
 | x::l,k+1,o,o',h,hg=>by
  have:=flat_set g l k o o' (by simpa using h) hg
  simp [this]
theorem AlSt.goes {W wr w':World} {b:Nat} {f:Nat→Opv} {c:Nat} {va vp:Value} {l:List (Option Tw)} {ps:List Pr} {kS kR:Nat} {n:Int} {vS vN vR vQ:Value} {es rs:List (Value×Int)} (h:AlSt W wr b f c va vp l ps kS kR n vS vN vR vQ es rs) {k d:Nat} {o:Option Tw} {e:Ending} (hk:l[k]?=some o) (hd:d≤(f c).t.size) (D:DoOut W.heap.size b kS kR n d o wr e w'):∃ l' kS' kR' n' vS vN vR vQ es rs,AlSt W w' b f (c+1) va vp l' ps kS' kR' n' vS vN vR vQ es rs:=by
 obtain⟨_,F,⟨o',T⟩,kS',kR',n',yS,yN,yR,yQ,es',rs',⟨b1,b2,b3,b4⟩,A⟩:=D
 have et:tot f (c+1)=tot f c+(f c).t.size:=rfl
 have hty:=blkO_ty (h.tw k o hk)
 have hlt:=blkO_lt (h.tw k o hk)
 have hlk:k < l.length:=(List.getElem?_eq_some_iff.mp hk).1
 have hrow:∀ {T:TypeId} {q:Nat},TyIs wr q T→rowT T=true→w'.heap[q]?=wr.heap[q]?:=fun {T q} hq hT=>F.block q hq.lt (fun hm=>by
  obtain⟨U,e1,e2⟩:=hty q hm
  rw [TyIs.uniq e1 hq,row_str hT] at e2;cases e2) (Or.inr ⟨T,hq,row_bok hT⟩)
 have hget:∀ (i:Nat) y,(l.set k o')[i]?=some y→(i=k∧y=o')∨(i≠k∧l[i]?=some y):=fun i y hy=>by
  by_cases hi:i=k
  ·subst hi;left;rw [List.getElem?_set_self hlk] at hy;exact⟨rfl,by simpa using hy.symm⟩
  ·right;rw [List.getElem?_set_ne (fun e=>hi e.symm)] at hy;exact⟨hi,hy⟩
 refine⟨l.set k o',kS',kR',n',yS,yN,yR,yQ,es',rs',A,?_,ownsRow_same h.rp (fun q hq _=>hrow (own_tyP h.rp hq) (by decide)),fun i y hi=>?_,fun i j o1 o2 hij h1 h2 q hq hq2=>?_,fun y hy=>⟨(h.pr y hy).1.frame (F.pat hty),(h.pr y hy).2.frame (F.pat hty)⟩,?_,fun i x hi=>?_,by have:=h.hS;omega,by have:=h.hR;omega,⟨b3,by have:=h.hn.2;omega⟩,by rw [List.length_set];exact Nat.le_trans h.la (by omega),Nat.le_trans h.lp (by omega)⟩
 ·rw [List.length_set,flat_set twV l k o o' hk T.row]
  exact ownsRow_same h.ra (fun q hq _=>hrow (own_tyP h.ra hq) (by decide))
 ·rcases hget i y hi with ⟨_,rfl⟩|⟨hne,hy⟩
  ·exact T.at'
  ·have ho:=h.tw i y hy
   cases y with
   | none=>trivial
   | some x=>exact TwAt.keep ho F hty (fun q hq hm=>h.dis i k _ _ hne hy hk q hq hm)
 ·rcases hget i o1 h1 with ⟨e1,rfl⟩|⟨n1,y1⟩
  ·rcases hget j o2 h2 with ⟨e2,_⟩|⟨n2,y2⟩
   ·omega
   ·rcases T.blk q hq with e|e
    ·exact h.dis k j o o2 (fun e=>n2 e.symm) hk y2 q e hq2
    ·have:=blkO_lt (h.tw j o2 y2) q hq2;omega
  ·rcases hget j o2 h2 with ⟨e2,rfl⟩|⟨n2,y2⟩
   ·rcases T.blk q hq2 with e|e
    ·exact h.dis i k o1 o n1 y1 hk q hq e
    ·have:=blkO_lt (h.tw i o1 y1) q hq;omega
   ·exact h.dis i j o1 o2 hij y1 y2 q hq hq2
 ·have hu:=h.up
  exact⟨F.os.trans hu.os,F.tape.trans hu.tape,F.output.trans hu.output,Nat.le_trans hu.size F.size,fun q hq hn=>(F.block q (Nat.lt_of_lt_of_le hq hu.size) (fun hm=>by
   have ho:=h.tw k o hk
   cases o with
   | none=>cases hm
   | some x=>have:=(TwAt.lt ho q hm).1;omega) (Or.inl hq)).trans (hu.block q hq hn)⟩
 ·rcases hget i _ hi with ⟨_,e⟩|⟨hne,hy⟩
  ·cases o with
   | none=>
    have hr:=T.row
    rw [← e] at hr
    simp [twV] at hr
   | some x0=>
    have h1:=h.sz k x0 hk
    have h2:=T.len x0 x rfl e.symm
    omega
  ·have:=h.sz i x hy;omega
theorem flat2_get {α:Type} (g:α→List Value) (hg:∀ x,(g x).length=2):∀ (l:List α) (k:Nat) (x:α),l[k]?=some x→∀ j,j < 2→(l.flatMap g)[k * 2+j]?=(g x)[j]?
 | [],k,x,h,_,_=>by simp at h
 | y::l,0,x,h,j,hj=>by
  have e:y=x:=by simpa using h
  subst e
  rw [List.flatMap_cons,List.getElem?_append_left (by rw [hg];omega),Nat.zero_mul,Nat.zero_add]
 | y::l,k+1,x,h,j,hj=>by
  rw [List.flatMap_cons,List.getElem?_append_right (by rw [hg];omega),hg,show (k+1) * 2+j - 2=k * 2+j by omega]
  exact flat2_get g hg l k x (by simpa using h) j hj
theorem row2 {w:World} {B0 cap g N:Nat} {T:TypeId} {xs:List Value} (h:w.ownsRow B0 T 2 (.slice (some ⟨g,0,none⟩) N cap) N xs) {j:Nat} {v:Value} (hj:xs[j]?=some v):w.cell? ⟨g,j,none⟩=some v:=by
 have:=h.cells (g:=g) rfl j v hj
 have e0:(⟨g,0,none⟩:Addr).add j=⟨g,j,none⟩:=by simp [Addr.add];omega
 rw [e0] at this;exact this
theorem AlSt.someP {W wr:World} {b:Nat} {f:Nat→Opv} {c cp:Nat} {va:Value} {ap:Option Addr} {l:List (Option Tw)} {ps:List Pr} {kS kR:Nat} {n:Int} {vS vN vR vQ:Value} {es rs:List (Value×Int)} (h:AlSt W wr b f c va (.slice ap ps.length cp) l ps kS kR n vS vN vR vQ es rs) (h0:0 < ps.length):∃ g,ap=some ⟨g,0,none⟩:=by
 rcases h.rp.2 with ⟨q,q'⟩|⟨g,cap,cur,q,_⟩
 ·omega
 ·injection q with q1;exact⟨g,q1⟩
theorem AlSt.someA {W wr:World} {b:Nat} {f:Nat→Opv} {c ca:Nat} {vp:Value} {aa:Option Addr} {l:List (Option Tw)} {ps:List Pr} {kS kR:Nat} {n:Int} {vS vN vR vQ:Value} {es rs:List (Value×Int)} (h:AlSt W wr b f c (.slice aa l.length ca) vp l ps kS kR n vS vN vR vQ es rs) (h0:0 < l.length):∃ g,aa=some ⟨g,0,none⟩:=by
 rcases h.ra.2 with ⟨q,q'⟩|⟨g,cap,cur,q,_⟩
 ·omega
 ·injection q with q1;exact⟨g,q1⟩
theorem AlSt.getP {W wr:World} {b:Nat} {f:Nat→Opv} {c cp g:Nat} {va:Value} {l:List (Option Tw)} {ps:List Pr} {kS kR:Nat} {n:Int} {vS vN vR vQ:Value} {es rs:List (Value×Int)} (h:AlSt W wr b f c va (.slice (some ⟨g,0,none⟩) ps.length cp) l ps kS kR n vS vN vR vQ es rs) (k:Nat) (hk:k < ps.length):∃ x:Pr,wr.cell? ⟨g,k * 2,none⟩=some (.pointer (some ⟨x.p,0,none⟩))∧wr.cell? ⟨g,k * 2+1,none⟩=some (.pointer (some ⟨x.q,0,none⟩))∧PatAt wr x.p x.t x.n∧RfPat wr x.q x.src x.t x.n:=by
 have hx:ps[k]?=some ps[k]:=List.getElem?_eq_getElem hk
 exact⟨ps[k],row2 h.rp (flat2_get prV (fun _=>rfl) ps k _ hx 0 (by omega)),row2 h.rp (flat2_get prV (fun _=>rfl) ps k _ hx 1 (by omega)),h.pr _ (List.getElem_mem hk)⟩
theorem AlSt.getA {W wr:World} {b:Nat} {f:Nat→Opv} {c ca g:Nat} {vp:Value} {l:List (Option Tw)} {ps:List Pr} {kS kR:Nat} {n:Int} {vS vN vR vQ:Value} {es rs:List (Value×Int)} (h:AlSt W wr b f c (.slice (some ⟨g,0,none⟩) l.length ca) vp l ps kS kR n vS vN vR vQ es rs) (k:Nat) (hk:k < l.length):∃ o,l[k]?=some o∧wr.cell? ⟨g,k * 2,none⟩=some (.pointer (xO o))∧wr.cell? ⟨g,k * 2+1,none⟩=some (.pointer (rO o)):=by
 have hx:l[k]?=some l[k]:=List.getElem?_eq_getElem hk
 have h0:=row2 h.ra (v:=.pointer (xO l[k])) (j:=k * 2) (by
  have:=flat2_get twV (fun o=>by cases o<;>rfl) l k _ hx 0 (by omega)
  rw [Nat.add_zero] at this;rw [this];cases l[k]<;>rfl)
 have h1:=row2 h.ra (v:=.pointer (rO l[k])) (j:=k * 2+1) (by
  have:=flat2_get twV (fun o=>by cases o<;>rfl) l k _ hx 1 (by omega)
  rw [this];cases l[k]<;>rfl)
 exact⟨l[k],hx,h0,h1⟩
def pickN (c:Int) (N:Nat):Nat:=if c < 0 then (-(c+1)).toNat % N else c.toNat % N
theorem pickN_lt (c:Int) {N:Nat} (h:0 < N):pickN c N < N:=by
 unfold pickN;split<;>exact Nat.mod_lt _ h
theorem pick_is (c:Int) (N:Nat) (w:World) (hc:-9223372036854775808≤c∧c≤9223372036854775807) (hN:0 < N∧N≤60000000):Calls Tryz.prog 16 #[.int .i64 c,.int .i64 N] w fun e w'=>e=.returned (.int .i64 (pickN c N))∧w'=w:=by
 by_cases h:c < 0
 ·obtain⟨d,hd⟩:∃ d:Nat,(d:Int)=-(c+1):=⟨(-(c+1)).toNat,by omega⟩
  have HE:Hid (pickN c N=d % N):=by show _=_;unfold pickN;rw [if_pos h,← hd];rfl
  have hw1:IntKind.i64.wrap (c+1)=c+1:=by rw [IntKind.wrap_i64];omega
  have hw2:IntKind.i64.wrap (-(c+1))=-(c+1):=by rw [IntKind.wrap_i64];omega
  have hlt:=Nat.mod_lt d hN.1
  go_enter Tryz.func16,Tryz.ntmps16
  go_wp2_with fail
  go_ret
  refine⟨?_,rfl⟩
  rw [HE.out,← Int.neg_tmod,← hd]
  rfl
 ·obtain⟨d,rfl⟩:∃ d:Nat,c=(d:Int):=⟨c.toNat,by omega⟩
  have HE:Hid (pickN (d:Int) N=d % N):=by show _=_;unfold pickN;rw [if_neg h];rfl
  have hlt:=Nat.mod_lt d hN.1
  go_enter Tryz.func16,Tryz.ntmps16
  go_wp2_with fail
  go_ret
  exact⟨by rw [HE.out];simp,rfl⟩
theorem Sf.opt {B0:Nat} {w w':World} {o:Option Tw} (F:Sf B0 (blkO o) w w') (ho:TwO B0 w o) {k:Nat} {T:TypeId} (h:TyIs w k T) (h1:strT T=false) (h2:bokT T=false):w'.heap[k]?=w.heap[k]?:=
 F.block k h.lt (fun hm=>by
  obtain⟨U,e1,e2⟩:=blkO_ty ho k hm
  rw [TyIs.uniq e1 h,h1] at e2;cases e2) (Or.inr ⟨T,h,h2⟩)
end Go.Proofs.YtcpfpnjkfahjcaaGreat
