import Derived.Test.YtcpfpnjkfahjcaaGreatH19
import Derived.Deep.RegionWith
import Derived.Deep.RegionHeld3
set_option linter.unusedSimpArgs false
set_option linter.unusedVariables false
namespace Go.Proofs.YtcpfpnjkfahjcaaGreat
open Go.RowKit
set_option maxHeartbeats 1600000 in
theorem mThr_0 (w0:World) (s:Nat) (t:ByteArray) (g v n p:Nat) (a:TN) (l:List Sp.Gr) (i j:Nat) (hn:TnAt w0 p a) (hns:p < s) (hk:a.kind=0) (hS:StepC w0 s t g v n 96 p l i j):ThrC w0 s t g v n p l i j:=by
 intro w sp h
 have hs:=h.live.lt
 obtain⟨c0,c1,c2,c3,c4,c5,c6,c7,c8,c9,c10,c11,fz⟩:=(h.live.tn hn hns).facts
 obtain⟨d0,d1,d2,d3,d4,d5,d6,d7,d8,dz⟩:=h.wk.facts
 have hv:=lt_of_heap h.wk
 rw [hk] at c0
 have H:Hid (Walk w0 s t g v n sp w):=h
 have HS:Hid (StepC w0 s t g v n 96 p l i j):=hS
 clear h hn hS
 unfold ptr
 go_enter Tryz.func78,Tryz.ntmps78
 go_wp2_with fail
 go_region_with (go_at_call 96;refine (HS.out _ sp (H.out.upd (by (repeat (first|exact Upd.refl _ _|refine Upd.drewN ?_|refine Upd.drew ?_|refine Upd.setCell ?_ (by simp) _|refine Upd.alloc ?_ _))))).mono ?_;rintro e w1 ⟨rfl,h1,g1⟩;have H1:Hid (Walk w0 s t g v n (Sp.puts sp l) w1):=h1;have G1:Hid (GoneG s g w w1):=(Upd.toG (by (repeat (first|exact Upd.refl _ _|refine Upd.drewN ?_|refine Upd.drew ?_|refine Upd.setCell ?_ (by simp) _|refine Upd.alloc ?_ _)))).trans g1;clear h1 g1)
 all_goals go_wp2_with fail
 all_goals go_end0
 all_goals exact⟨rfl,H1.out,G1.out⟩
set_option maxHeartbeats 1600000 in
theorem mThr_1 (w0:World) (s:Nat) (t:ByteArray) (g v n p:Nat) (a:TN) (l:List Sp.Gr) (i j:Nat) (hn:TnAt w0 p a) (hns:p < s) (hk:a.kind=1) (hS:StepC w0 s t g v n 96 p l i j):ThrC w0 s t g v n p l i j:=by
 intro w sp h
 have hs:=h.live.lt
 obtain⟨c0,c1,c2,c3,c4,c5,c6,c7,c8,c9,c10,c11,fz⟩:=(h.live.tn hn hns).facts
 obtain⟨d0,d1,d2,d3,d4,d5,d6,d7,d8,dz⟩:=h.wk.facts
 have hv:=lt_of_heap h.wk
 rw [hk] at c0
 have H:Hid (Walk w0 s t g v n sp w):=h
 have HS:Hid (StepC w0 s t g v n 96 p l i j):=hS
 clear h hn hS
 unfold ptr
 go_enter Tryz.func78,Tryz.ntmps78
 go_wp2_with fail
 go_region_with (go_at_call 96;refine (HS.out _ sp (H.out.upd (by (repeat (first|exact Upd.refl _ _|refine Upd.drewN ?_|refine Upd.drew ?_|refine Upd.setCell ?_ (by simp) _|refine Upd.alloc ?_ _))))).mono ?_;rintro e w1 ⟨rfl,h1,g1⟩;have H1:Hid (Walk w0 s t g v n (Sp.puts sp l) w1):=h1;have G1:Hid (GoneG s g w w1):=(Upd.toG (by (repeat (first|exact Upd.refl _ _|refine Upd.drewN ?_|refine Upd.drew ?_|refine Upd.setCell ?_ (by simp) _|refine Upd.alloc ?_ _)))).trans g1;clear h1 g1)
 all_goals go_wp2_with fail
 all_goals go_end0
 all_goals exact⟨rfl,H1.out,G1.out⟩
set_option maxHeartbeats 1600000 in
theorem mThr_2 (w0:World) (s:Nat) (t:ByteArray) (g v n p:Nat) (a:TN) (l:List Sp.Gr) (i j:Nat) (hn:TnAt w0 p a) (hns:p < s) (hk:a.kind=2) (hS:StepC w0 s t g v n 96 p l i j):ThrC w0 s t g v n p l i j:=by
 intro w sp h
 have hs:=h.live.lt
 obtain⟨c0,c1,c2,c3,c4,c5,c6,c7,c8,c9,c10,c11,fz⟩:=(h.live.tn hn hns).facts
 obtain⟨d0,d1,d2,d3,d4,d5,d6,d7,d8,dz⟩:=h.wk.facts
 have hv:=lt_of_heap h.wk
 rw [hk] at c0
 have H:Hid (Walk w0 s t g v n sp w):=h
 have HS:Hid (StepC w0 s t g v n 96 p l i j):=hS
 clear h hn hS
 unfold ptr
 go_enter Tryz.func78,Tryz.ntmps78
 go_wp2_with fail
 go_region_with (go_at_call 96;refine (HS.out _ sp (H.out.upd (by (repeat (first|exact Upd.refl _ _|refine Upd.drewN ?_|refine Upd.drew ?_|refine Upd.setCell ?_ (by simp) _|refine Upd.alloc ?_ _))))).mono ?_;rintro e w1 ⟨rfl,h1,g1⟩;have H1:Hid (Walk w0 s t g v n (Sp.puts sp l) w1):=h1;have G1:Hid (GoneG s g w w1):=(Upd.toG (by (repeat (first|exact Upd.refl _ _|refine Upd.drewN ?_|refine Upd.drew ?_|refine Upd.setCell ?_ (by simp) _|refine Upd.alloc ?_ _)))).trans g1;clear h1 g1)
 all_goals go_wp2_with fail
 all_goals go_end0
 all_goals exact⟨rfl,H1.out,G1.out⟩
set_option maxHeartbeats 1600000 in
theorem mThr_3 (w0:World) (s:Nat) (t:ByteArray) (g v n p:Nat) (a:TN) (l:List Sp.Gr) (i j:Nat) (hn:TnAt w0 p a) (hns:p < s) (hk:a.kind=3) (hS:StepC w0 s t g v n 97 p l i j):ThrC w0 s t g v n p l i j:=by
 intro w sp h
 have hs:=h.live.lt
 obtain⟨c0,c1,c2,c3,c4,c5,c6,c7,c8,c9,c10,c11,fz⟩:=(h.live.tn hn hns).facts
 obtain⟨d0,d1,d2,d3,d4,d5,d6,d7,d8,dz⟩:=h.wk.facts
 have hv:=lt_of_heap h.wk
 rw [hk] at c0
 have H:Hid (Walk w0 s t g v n sp w):=h
 have HS:Hid (StepC w0 s t g v n 97 p l i j):=hS
 clear h hn hS
 unfold ptr
 go_enter Tryz.func78,Tryz.ntmps78
 go_wp2_with fail
 go_region_with (go_at_call 97;refine (HS.out _ sp (H.out.upd (by (repeat (first|exact Upd.refl _ _|refine Upd.drewN ?_|refine Upd.drew ?_|refine Upd.setCell ?_ (by simp) _|refine Upd.alloc ?_ _))))).mono ?_;rintro e w1 ⟨rfl,h1,g1⟩;have H1:Hid (Walk w0 s t g v n (Sp.puts sp l) w1):=h1;have G1:Hid (GoneG s g w w1):=(Upd.toG (by (repeat (first|exact Upd.refl _ _|refine Upd.drewN ?_|refine Upd.drew ?_|refine Upd.setCell ?_ (by simp) _|refine Upd.alloc ?_ _)))).trans g1;clear h1 g1)
 all_goals go_wp2_with fail
 all_goals go_end0
 all_goals exact⟨rfl,H1.out,G1.out⟩
set_option maxHeartbeats 1600000 in
theorem mThr_4 (w0:World) (s:Nat) (t:ByteArray) (g v n p:Nat) (a:TN) (l:List Sp.Gr) (i j:Nat) (hn:TnAt w0 p a) (hns:p < s) (hk:a.kind=4) (hS:StepC w0 s t g v n 98 p l i j):ThrC w0 s t g v n p l i j:=by
 intro w sp h
 have hs:=h.live.lt
 obtain⟨c0,c1,c2,c3,c4,c5,c6,c7,c8,c9,c10,c11,fz⟩:=(h.live.tn hn hns).facts
 obtain⟨d0,d1,d2,d3,d4,d5,d6,d7,d8,dz⟩:=h.wk.facts
 have hv:=lt_of_heap h.wk
 rw [hk] at c0
 have H:Hid (Walk w0 s t g v n sp w):=h
 have HS:Hid (StepC w0 s t g v n 98 p l i j):=hS
 clear h hn hS
 unfold ptr
 go_enter Tryz.func78,Tryz.ntmps78
 go_wp2_with fail
 go_region_with (go_at_call 98;refine (HS.out _ sp (H.out.upd (by (repeat (first|exact Upd.refl _ _|refine Upd.drewN ?_|refine Upd.drew ?_|refine Upd.setCell ?_ (by simp) _|refine Upd.alloc ?_ _))))).mono ?_;rintro e w1 ⟨rfl,h1,g1⟩;have H1:Hid (Walk w0 s t g v n (Sp.puts sp l) w1):=h1;have G1:Hid (GoneG s g w w1):=(Upd.toG (by (repeat (first|exact Upd.refl _ _|refine Upd.drewN ?_|refine Upd.drew ?_|refine Upd.setCell ?_ (by simp) _|refine Upd.alloc ?_ _)))).trans g1;clear h1 g1)
 all_goals go_wp2_with fail
 all_goals go_end0
 all_goals exact⟨rfl,H1.out,G1.out⟩
set_option maxHeartbeats 1600000 in
theorem mThr_5 (w0:World) (s:Nat) (t:ByteArray) (g v n p:Nat) (a:TN) (l:List Sp.Gr) (i j:Nat) (hn:TnAt w0 p a) (hns:p < s) (hk:a.kind=5) (hS:StepC w0 s t g v n 99 p l i j):ThrC w0 s t g v n p l i j:=by
 intro w sp h
 have hs:=h.live.lt
 obtain⟨c0,c1,c2,c3,c4,c5,c6,c7,c8,c9,c10,c11,fz⟩:=(h.live.tn hn hns).facts
 obtain⟨d0,d1,d2,d3,d4,d5,d6,d7,d8,dz⟩:=h.wk.facts
 have hv:=lt_of_heap h.wk
 rw [hk] at c0
 have H:Hid (Walk w0 s t g v n sp w):=h
 have HS:Hid (StepC w0 s t g v n 99 p l i j):=hS
 clear h hn hS
 unfold ptr
 go_enter Tryz.func78,Tryz.ntmps78
 go_wp2_with fail
 go_region_with (go_at_call 99;refine (HS.out _ sp (H.out.upd (by (repeat (first|exact Upd.refl _ _|refine Upd.drewN ?_|refine Upd.drew ?_|refine Upd.setCell ?_ (by simp) _|refine Upd.alloc ?_ _))))).mono ?_;rintro e w1 ⟨rfl,h1,g1⟩;have H1:Hid (Walk w0 s t g v n (Sp.puts sp l) w1):=h1;have G1:Hid (GoneG s g w w1):=(Upd.toG (by (repeat (first|exact Upd.refl _ _|refine Upd.drewN ?_|refine Upd.drew ?_|refine Upd.setCell ?_ (by simp) _|refine Upd.alloc ?_ _)))).trans g1;clear h1 g1)
 all_goals go_wp2_with fail
 all_goals go_end0
 all_goals exact⟨rfl,H1.out,G1.out⟩
set_option maxHeartbeats 1600000 in
theorem mThr_6 (w0:World) (s:Nat) (t:ByteArray) (g v n p:Nat) (a:TN) (l:List Sp.Gr) (i j:Nat) (hn:TnAt w0 p a) (hns:p < s) (hk:a.kind=6) (hS:StepC w0 s t g v n 100 p l i j):ThrC w0 s t g v n p l i j:=by
 intro w sp h
 have hs:=h.live.lt
 obtain⟨c0,c1,c2,c3,c4,c5,c6,c7,c8,c9,c10,c11,fz⟩:=(h.live.tn hn hns).facts
 obtain⟨d0,d1,d2,d3,d4,d5,d6,d7,d8,dz⟩:=h.wk.facts
 have hv:=lt_of_heap h.wk
 rw [hk] at c0
 have H:Hid (Walk w0 s t g v n sp w):=h
 have HS:Hid (StepC w0 s t g v n 100 p l i j):=hS
 clear h hn hS
 unfold ptr
 go_enter Tryz.func78,Tryz.ntmps78
 go_wp2_with fail
 go_region_with (go_at_call 100;refine (HS.out _ sp (H.out.upd (by (repeat (first|exact Upd.refl _ _|refine Upd.drewN ?_|refine Upd.drew ?_|refine Upd.setCell ?_ (by simp) _|refine Upd.alloc ?_ _))))).mono ?_;rintro e w1 ⟨rfl,h1,g1⟩;have H1:Hid (Walk w0 s t g v n (Sp.puts sp l) w1):=h1;have G1:Hid (GoneG s g w w1):=(Upd.toG (by (repeat (first|exact Upd.refl _ _|refine Upd.drewN ?_|refine Upd.drew ?_|refine Upd.setCell ?_ (by simp) _|refine Upd.alloc ?_ _)))).trans g1;clear h1 g1)
 all_goals go_wp2_with fail
 all_goals go_end0
 all_goals exact⟨rfl,H1.out,G1.out⟩
end Go.Proofs.YtcpfpnjkfahjcaaGreat
