import Derived.Test.YtcpfpnjkfahjcaaGreatH20
set_option linter.unusedSimpArgs false
set_option linter.unusedVariables false
namespace Go.Proofs.YtcpfpnjkfahjcaaGreat
open Go.RowKit
set_option maxHeartbeats 1600000 in
theorem mThrG_quiet (w0:World) (s:Nat) (t:ByteArray) (g v n p b cap q:Nat) (a:TN) (l:List Sp.Gr) (i j:Nat) (hn:TnAt w0 p a) (hns:p < s) (hp:a.parts=.slice (some ⟨b,0,none⟩) 1 cap) (hb:b < s) (hc:w0.cell? ⟨b,0,none⟩=some (ptr q)) (hm:a.num=0) (hS:ThrC w0 s t g v n q l i j):StepC w0 s t g v n 97 p l i j:=by
 intro w sp h
 have hs:=h.live.lt
 obtain⟨c0,c1,c2,c3,c4,c5,c6,c7,c8,c9,c10,c11,fz⟩:=(h.live.tn hn hns).facts
 have cq:w.cell? ⟨b,0,none⟩=some (.pointer (some ⟨q,0,none⟩)):=h.live.cell hc hb
 rw [hp] at c2
 rw [hm] at c9
 have n0:p < w.heap.size:=by omega
 have n1:p < w.heap.size+1:=by omega
 have b0:b < w.heap.size:=by omega
 have b1:b < w.heap.size+1:=by omega
 have H:Hid (Walk w0 s t g v n sp w):=h
 have HS:Hid (ThrC w0 s t g v n q l i j):=hS
 clear h hn hS hc
 unfold ptr spotV
 go_enter Tryz.func97,Tryz.ntmps97
 go_wp2_with fail
 go_region_with (go_at_call 78;refine (HS.out _ sp (H.out.upd (by (repeat (first|exact Upd.refl _ _|refine Upd.drewN ?_|refine Upd.drew ?_|refine Upd.setCell ?_ (by simp) _|refine Upd.alloc ?_ _))))).mono ?_;rintro e w1 ⟨rfl,h1,g1⟩;have H1:Hid (Walk w0 s t g v n (Sp.puts sp l) w1):=h1;have G1:Hid (GoneG s g w w1):=(Upd.toG (by (repeat (first|exact Upd.refl _ _|refine Upd.drewN ?_|refine Upd.drew ?_|refine Upd.setCell ?_ (by simp) _|refine Upd.alloc ?_ _)))).trans g1;clear h1 g1)
 all_goals go_wp2_with fail
 all_goals go_end0
 all_goals exact⟨rfl,H1.out,G1.out⟩
set_option maxHeartbeats 1600000 in
theorem mThrG_told (w0:World) (s:Nat) (t:ByteArray) (g v n p b cap q m:Nat) (a:TN) (l:List Sp.Gr) (i j:Nat) (hn:TnAt w0 p a) (hns:p < s) (hp:a.parts=.slice (some ⟨b,0,none⟩) 1 cap) (hb:b < s) (hc:w0.cell? ⟨b,0,none⟩=some (ptr q)) (hm:a.num=m) (h0:0 < m) (hmn:m < n) (hS:ThrC w0 s t g v n q l i j):StepC w0 s t g v n 97 p ((m,i,j)::l) i j:=by
 intro w sp h
 have hs:=h.live.lt
 obtain⟨c0,c1,c2,c3,c4,c5,c6,c7,c8,c9,c10,c11,fz⟩:=(h.live.tn hn hns).facts
 obtain⟨d0,d1,d2,d3,d4,d5,d6,d7,d8,dz⟩:=h.wk.facts
 have hv:=lt_of_heap h.wk
 have hv1:v < w.heap.size+1:=by omega
 have cq:w.cell? ⟨b,0,none⟩=some (.pointer (some ⟨q,0,none⟩)):=h.live.cell hc hb
 rw [hp] at c2
 rw [hm] at c9
 have n0:p < w.heap.size:=by omega
 have n1:p < w.heap.size+1:=by omega
 have b0:b < w.heap.size:=by omega
 have b1:b < w.heap.size+1:=by omega
 have h0':(0:Int) < m:=by omega
 have H:Hid (Walk w0 s t g v n sp w):=h
 have HS:Hid (ThrC w0 s t g v n q l i j):=hS
 have HN:Hid (TnAt w0 p a):=hn
 have HC:Hid (w0.cell? ⟨b,0,none⟩=some (ptr q)):=hc
 have hsg:=h.sg
 have hgv:=h.gv
 have hnn:=h.n
 have C1:Hid (SpAt (w.alloc (.cells #[.pointer (some ⟨p,0,none⟩),.int .i64 ((0:Nat):Int),.int .i64 i] 140)) w.heap.size ⟨p,0,i⟩):=SpAt.new rfl
 clear h hn hS hc
 unfold ptr spotV
 go_enter Tryz.func97,Tryz.ntmps97
 go_wp2_with fail
 go_region_held3 (fun w'=>w'.cell? ⟨w.heap.size,0,none⟩=some (.pointer (some ⟨p,0,none⟩))∧w'.cell? ⟨w.heap.size,2,none⟩=some (.int .i64 i)∧w'.cell? ⟨p,9,none⟩=some (.int .i64 m)∧w'.cell? ⟨v,8,none⟩=some (.func (.func 77) #[.slice (some ⟨g,0,none⟩) n n] #[])) (go_keep) (first|(go_at_call 77;refine (mPut_any g n m i j sp _ (Walk.sp (H.out.upd (by (repeat (first|exact Upd.refl _ _|refine Upd.drewN ?_|refine Upd.drew ?_|refine Upd.setCell ?_ (by simp) _|refine Upd.alloc ?_ _))))) hmn hnn).mono ?_;rintro e w1 ⟨rfl,u1,s1⟩;have H1:Hid (Walk w0 s t g v n (Sp.put sp (m,i,j)) w1):=Walk.put (H.out.upd (by (repeat (first|exact Upd.refl _ _|refine Upd.drewN ?_|refine Upd.drew ?_|refine Upd.setCell ?_ (by simp) _|refine Upd.alloc ?_ _)))) u1 s1;have G1:Hid (GoneG s g w w1):=(Upd.toG (by (repeat (first|exact Upd.refl _ _|refine Upd.drewN ?_|refine Upd.drew ?_|refine Upd.setCell ?_ (by simp) _|refine Upd.alloc ?_ _)))).trans u1.putG;have y:=SpAt.upd2 u1 (by exact C1.out) (by simp;omega);have Y:Hid (SpAt w1 w.heap.size ⟨p,0,i⟩):=y;obtain⟨x0,x1,x2,xz⟩:=y.facts;have x3:=(H1.out.live.tn HN.out hns).facts.c9;rw [hm] at x3;have x4:=H1.out.wk.facts.c8;clear u1 s1))
 ·clear y x3 x4
  have x3:=(H1.out.live.tn HN.out hns).facts.c2
  rw [hp] at x3
  have x4:w1.cell? ⟨b,0,none⟩=some (.pointer (some ⟨q,0,none⟩)):=H1.out.live.cell HC.out hb
  have y0:=lt_of_heap Y.out
  have y1:=H1.out.live.lt
  have y2:p < w1.heap.size:=by omega
  have y3:b < w1.heap.size:=by omega
  go_wp2_with fail
  go_region_held3 (fun w'=>w'.cell? ⟨w.heap.size,0,none⟩=some (.pointer (some ⟨p,0,none⟩))∧w'.cell? ⟨w.heap.size,2,none⟩=some (.int .i64 i)∧w'.cell? ⟨p,2,none⟩=some (.slice (some ⟨b,0,none⟩) 1 cap)∧w'.cell? ⟨b,0,none⟩=some (.pointer (some ⟨q,0,none⟩))) (go_keep) (first|(go_at_call 78;refine (HS.out _ (Sp.put sp (m,i,j)) (H1.out.upd (by (repeat (first|exact Upd.refl _ _|refine Upd.drewN ?_|refine Upd.drew ?_|refine Upd.setCell ?_ (by simp) _|refine Upd.alloc ?_ _))))).mono ?_;rintro e w2 ⟨rfl,h2,g2⟩;have H2:Hid (Walk w0 s t g v n (Sp.puts (Sp.put sp (m,i,j)) l) w2):=h2;have g3:GoneG s g w1 w2:=(Upd.toG (by (repeat (first|exact Upd.refl _ _|refine Upd.drewN ?_|refine Upd.drew ?_|refine Upd.setCell ?_ (by simp) _|refine Upd.alloc ?_ _)))).trans g2;have G2:Hid (GoneG s g w w2):=G1.out.trans g3;have y:=SpAt.goneG (by exact Y.out) g3 (by omega) (by have:=H1.out.sg;have:=lt_of_heap H.out.sp;omega);obtain⟨z0,z1,z2,zz⟩:=y.facts;have z3:=(h2.live.tn HN.out hns).facts.c2;rw [hp] at z3;have z4:w2.cell? ⟨b,0,none⟩=some (.pointer (some ⟨q,0,none⟩)):=h2.live.cell HC.out hb;clear h2 g2 g3))
  all_goals go_wp2_with fail
  all_goals go_end0
  all_goals exact⟨rfl,H2.out,G2.out⟩
end Go.Proofs.YtcpfpnjkfahjcaaGreat
