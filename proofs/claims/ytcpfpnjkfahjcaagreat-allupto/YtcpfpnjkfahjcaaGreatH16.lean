import Derived.Test.YtcpfpnjkfahjcaaGreatH15
import Derived.Deep.RegionWith
set_option linter.unusedSimpArgs false
set_option linter.unusedVariables false
namespace Go.Proofs.YtcpfpnjkfahjcaaGreat
open Go.RowKit
theorem Live.cell {w0:World} {s:Nat} {t:ByteArray} {w:World} (h:Live w0 s t w) {g k:Nat} {v:Value} (hc:w0.cell? ⟨g,k,none⟩=some v) (hs:g < s):w.cell? ⟨g,k,none⟩=some v:=by
 have e:=h.base g hs
 rw [← hc];simp [World.cell?,e]
theorem Live.drew {w0:World} {s:Nat} {t:ByteArray} {w:World} (h:Live w0 s t w):Live w0 s t w.drew:=h.grow ((Upd.refl [] w).drew)
structure GotEnds (w0:World) (s:Nat) (t:ByteArray) (w:World) (p:Nat) (m:Nat→Bool) (f:Nat→Bool) (w1:World):Prop where
 lt:w.heap.size≤p
 pl:PlAt w1 p (fun _=>false)
 gone:Gone s w w1
 live:Live w0 s t w1
 ans:∀ j,j≤t.size→f j=m j
theorem GotEnds.mk' {w0:World} {s:Nat} {t:ByteArray} {w W w1:World} {p:Nat} {m f:Nat→Bool} (u:Upd [] w W) (hs:s < w.heap.size) (hp:w.heap.size≤p) (P:PlAt W p (fun _=>false)) (g:Gone s W.drew w1) (l:Live w0 s t w1) (hf:∀ j,j≤t.size→f j=m j):GotEnds w0 s t w p m f w1:=
 ⟨hp,PlAt.gone (w:=W.drew) P g (by omega),(u.drew.gone (by simp)).trans g,l,hf⟩
theorem GotEnds.out {w0:World} {s:Nat} {t:ByteArray} {w w1:World} {p:Nat} {m f:Nat→Bool} (h:GotEnds w0 s t w p m f w1) (hs:s < w.heap.size):EndsOut w0 s t m w (.returned (.agg #[.int .u64 (word f 0 64),.int .u64 (word f 64 64)])) ((w1.setCell ⟨p,0,none⟩ (.int .u64 (word f 0 64))).setCell ⟨p,1,none⟩ (.int .u64 (word f 64 64))):=by
 have u9:Upd [p] w1 ((w1.setCell ⟨p,0,none⟩ (.int .u64 (word f 0 64))).setCell ⟨p,1,none⟩ (.int .u64 (word f 64 64))):=by (repeat (first|exact Upd.refl _ _|refine Upd.drewN ?_|refine Upd.drew ?_|refine Upd.setCell ?_ (by simp) _|refine Upd.alloc ?_ _))
 have:=h.lt
 exact⟨f,rfl,h.ans,h.gone.hide u9 (by simpa using h.lt),h.live.pl u9 h.pl h.pl.store (by omega)⟩
set_option maxHeartbeats 1600000 in
theorem mGroupE_any (w0:World) (s n d i g cap q:Nat) (t:ByteArray) (qt:Tr) (a:TN) (w:World) (h:Live w0 s t w) (hn:TnAt w0 n a) (hns:n < s) (hp:a.parts=.slice (some ⟨g,0,none⟩) 1 cap) (hg:g < s) (hc:w0.cell? ⟨g,0,none⟩=some (ptr q)) (h1:EndsC w0 s t q qt 0 i) :
  Calls Tryz.prog 69 #[ptr s,spotV ⟨n,d,i⟩] w (EndsOut w0 s t (fun j=>(Sp.sem t qt).m i j) w):=by
 have H1:Hid (EndsC w0 s t q qt 0 i):=h1
 have hs:=h.lt
 have n0:n < w.heap.size:=by omega
 have n1:n < w.heap.size+1:=by omega
 have g0:g < w.heap.size:=by omega
 have g1:g < w.heap.size+1:=by omega
 obtain⟨c0,c1,c2,c3,c4,c5,c6,c7,c8,c9,c10,c11,fz⟩:=(h.tn hn hns).facts
 have cq:w.cell? ⟨g,0,none⟩=some (.pointer (some ⟨q,0,none⟩)):=h.cell hc hg
 rw [hp] at c2
 have u:Upd [] w ((w.alloc (.cells #[.pointer (some ⟨n,0,none⟩),.int .i64 d,.int .i64 i] 140)).alloc (.cells #[.int .u64 0,.int .u64 0] 137)):=by (repeat (first|exact Upd.refl _ _|refine Upd.drewN ?_|refine Upd.drew ?_|refine Upd.setCell ?_ (by simp) _|refine Upd.alloc ?_ _))
 have U:Hid (Upd [] w ((w.alloc (.cells #[.pointer (some ⟨n,0,none⟩),.int .i64 d,.int .i64 i] 140)).alloc (.cells #[.int .u64 0,.int .u64 0] 137))):=u
 have L1:Hid (Live w0 s t ((w.alloc (.cells #[.pointer (some ⟨n,0,none⟩),.int .i64 d,.int .i64 i] 140)).alloc (.cells #[.int .u64 0,.int .u64 0] 137))):=h.grow u
 have P1:Hid (PlAt ((w.alloc (.cells #[.pointer (some ⟨n,0,none⟩),.int .i64 d,.int .i64 i] 140)).alloc (.cells #[.int .u64 0,.int .u64 0] 137)) (w.heap.size+1) (fun _=>false)):=plZ (heap_new (by simp))
 clear h u h1 hn hc
 unfold spotV ptr
 go_enter Tryz.func69,Tryz.ntmps69
 go_wp2_with fail
 go_region_with (go_at_call 51;refine (H1.out _ L1.out.drew).mono ?_;rintro e w1 ⟨f1,rfl,hf1,g1,l1⟩;have HG:Hid (GotEnds w0 s t w (w.heap.size+1) (fun j=>(Sp.sem t qt).m i j) f1 w1):=GotEnds.mk' U.out hs (by omega) P1.out g1 l1 (fun j hj=>by rw [hf1 j hj,Sp.spotM_zero]);clear hf1 g1 l1;obtain⟨k0,k1,kz⟩:=HG.out.pl.facts;unfold plV plCells)
 all_goals go_wp2_with fail
 all_goals
  refine bodyPost_ret (v:=.agg #[.int .u64 (word f1 0 64),.int .u64 (word f1 64 64)]) (by simp [results,Tryz.results69,go_sem,k0,k1,kz]) rfl ?_
  exact HG.out.out hs
end Go.Proofs.YtcpfpnjkfahjcaaGreat
