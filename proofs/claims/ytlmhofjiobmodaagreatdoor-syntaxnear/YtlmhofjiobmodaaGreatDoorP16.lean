/-
  The reader's condition by its contract. No condition.
-/
import Derived.Test.YtlmhofjiobmodaaGreatDoorP15
set_option maxRecDepth 100000
set_option maxHeartbeats 16000000
namespace Go.Proofs.YtlmhofjiobmodaaGreatDoor
open Go.RowKit Go.Lib
theorem qph {rbase rp g cap:Nat} {Ts:List Tk} {i:Nat} {w:World} (x:PR CT) (HC:∀V:World,RdA V rbase rp g cap Ts i→Calls Tryz.prog 119 #[.pointer (some ⟨rp,0,none⟩),.agg #[.string ⟨#[111,114]⟩,.int .i64 6,.int .i64 1]] V (qa7 rbase rp g cap Ts V x)) (hR:RdA w rbase rp g cap Ts i):
 Calls Tryz.prog 77 #[.pointer (some ⟨rp,0,none⟩),.int .i64 0] w (qa7 rbase rp g cap Ts w x):=by
 have BU:=qaa HC;obtain⟨Q,hQ⟩:∃Q,Q=w.heap.size:=⟨_,rfl⟩;obtain⟨W,hW⟩:∃W,W=w.alloc (.cells #[.int .i64 0,.string ⟨#[]⟩,.string ⟨#[]⟩,.slice none 0 0,.slice none 0 0,.slice none 0 0,.slice none 0 0,.int .i64 0] 60):=⟨_,rfl⟩;have X0:=qaa (show Below w.heap.size w W by rw[hW];exact al Yj _);have Q0:=qaa (show W.heap[Q]? =some (.cells #[.int .i64 0,.string ⟨#[]⟩,.string ⟨#[]⟩,.slice none 0 0,.slice none 0 0,.slice none 0 0,.slice none 0 0,.int .i64 0] 60 (0,0)) by rw[hW,hQ];exact Yh w _);have R0:=qaa (hR.below X0.out);have Bi:=qaa hQ;have Bc:Hid (rp<Q∧g<Q):=by have:=hR.gl;unfold Hid;omega
 have HO:=qaa (qaq W);clear HC hR;go_enter Tryz.func77,Tryz.ntmps77;go_upto_region 1 with fail
 rw[←hQ,←hW];clear hQ hW;have nQ:Q≠rp:=by have:=Bc.out;omega
 go_upto_region 2 with(go_at_call 116;refine HO.out.mono ?_;rintro e w1 ⟨rfl,x1⟩;have X1:=qaa x1;clear x1)
 have X2:=qaa (bt X0.out (bt X1.out (show Below w1.heap.size w1 (w1.alloc (.cells #[.string ⟨#[111,114]⟩,.int .i64 6,.int .i64 1,.string ⟨#[97,110,100]⟩,.int .i64 5,.int .i64 2,.string ⟨#[110,111,116]⟩,.int .i64 4,.int .i64 2] 152)) from al Yj _) Yi) Yi);have EC:=qaa (bt X1.out (show Below w1.heap.size w1 (w1.alloc (.cells #[.string ⟨#[111,114]⟩,.int .i64 6,.int .i64 1,.string ⟨#[97,110,100]⟩,.int .i64 5,.int .i64 2,.string ⟨#[110,111,116]⟩,.int .i64 4,.int .i64 2] 152)) from al Yj _) Yi);have T2:=qaa (Yh w1 (.cells #[.string ⟨#[111,114]⟩,.int .i64 6,.int .i64 1,.string ⟨#[97,110,100]⟩,.int .i64 5,.int .i64 2,.string ⟨#[110,111,116]⟩,.int .i64 4,.int .i64 2] 152));obtain⟨T,hT⟩:∃T,T=w1.heap.size:=⟨_,rfl⟩;rw[←hT] at T2;rw[←hT];have R2:=qaa (R0.out.below EC.out);have Q2:=qaa ((EC.out.block Q (Yd Q0.out)).trans Q0.out);clear hT EC X1 R0 Q0 X0 HO;generalize w1.alloc (.cells #[.string ⟨#[111,114]⟩,.int .i64 6,.int .i64 1,.string ⟨#[97,110,100]⟩,.int .i64 5,.int .i64 2,.string ⟨#[110,111,116]⟩,.int .i64 4,.int .i64 2] 152)=w2 at *;have q0:w2.cell? ⟨T,0,none⟩=#[.string ⟨#[111,114]⟩,.int .i64 6,.int .i64 1,.string ⟨#[97,110,100]⟩,.int .i64 5,.int .i64 2,.string ⟨#[110,111,116]⟩,.int .i64 4,.int .i64 2][0]? :=by rw[Ye _ _ _ _ _ _ T2.out]
 have q1:w2.cell? ⟨T,1,none⟩=#[.string ⟨#[111,114]⟩,.int .i64 6,.int .i64 1,.string ⟨#[97,110,100]⟩,.int .i64 5,.int .i64 2,.string ⟨#[110,111,116]⟩,.int .i64 4,.int .i64 2][1]? :=by rw[Ye _ _ _ _ _ _ T2.out]
 have q2:w2.cell? ⟨T,2,none⟩=#[.string ⟨#[111,114]⟩,.int .i64 6,.int .i64 1,.string ⟨#[97,110,100]⟩,.int .i64 5,.int .i64 2,.string ⟨#[110,111,116]⟩,.int .i64 4,.int .i64 2][2]? :=by rw[Ye _ _ _ _ _ _ T2.out]
 have q3:w2.cell? ⟨T,3,none⟩=#[.string ⟨#[111,114]⟩,.int .i64 6,.int .i64 1,.string ⟨#[97,110,100]⟩,.int .i64 5,.int .i64 2,.string ⟨#[110,111,116]⟩,.int .i64 4,.int .i64 2][3]? :=by rw[Ye _ _ _ _ _ _ T2.out]
 have q4:w2.cell? ⟨T,4,none⟩=#[.string ⟨#[111,114]⟩,.int .i64 6,.int .i64 1,.string ⟨#[97,110,100]⟩,.int .i64 5,.int .i64 2,.string ⟨#[110,111,116]⟩,.int .i64 4,.int .i64 2][4]? :=by rw[Ye _ _ _ _ _ _ T2.out]
 have q5:w2.cell? ⟨T,5,none⟩=#[.string ⟨#[111,114]⟩,.int .i64 6,.int .i64 1,.string ⟨#[97,110,100]⟩,.int .i64 5,.int .i64 2,.string ⟨#[110,111,116]⟩,.int .i64 4,.int .i64 2][5]? :=by rw[Ye _ _ _ _ _ _ T2.out]
 have q6:w2.cell? ⟨T,6,none⟩=#[.string ⟨#[111,114]⟩,.int .i64 6,.int .i64 1,.string ⟨#[97,110,100]⟩,.int .i64 5,.int .i64 2,.string ⟨#[110,111,116]⟩,.int .i64 4,.int .i64 2][6]? :=by rw[Ye _ _ _ _ _ _ T2.out]
 have q7:w2.cell? ⟨T,7,none⟩=#[.string ⟨#[111,114]⟩,.int .i64 6,.int .i64 1,.string ⟨#[97,110,100]⟩,.int .i64 5,.int .i64 2,.string ⟨#[110,111,116]⟩,.int .i64 4,.int .i64 2][7]? :=by rw[Ye _ _ _ _ _ _ T2.out]
 have q8:w2.cell? ⟨T,8,none⟩=#[.string ⟨#[111,114]⟩,.int .i64 6,.int .i64 1,.string ⟨#[97,110,100]⟩,.int .i64 5,.int .i64 2,.string ⟨#[110,111,116]⟩,.int .i64 4,.int .i64 2][8]? :=by rw[Ye _ _ _ _ _ _ T2.out]
 simp at q0 q1 q2 q3 q4 q5 q6 q7 q8;have HI:=qaa (BU.out w2 R2.out);clear BU;go_wp2_with (fail);refine HI.out.mono ?_;clear q0 q1 q2 q3 q4 q5 q6 q7 q8;intro e w3 hp;cases Bh:x with
 |out=>rw[Bh] at hp;exact absurd hp (fun h=>h)
 |bad e0 p=>
  rw[Bh] at hp;obtain⟨he,k3⟩:=hp;unfold pan at he;subst he;exact⟨rfl,qa7.badI (by first|exact Bh|rfl) rfl ((Kept.of_below X2.out).trans k3)⟩
 |ok c j=>
  have Ei:=qaa Bh;rw[Bh] at hp;obtain⟨⟨vs,bs,rfl,hct,hnd⟩,r3,k3⟩:=hp;obtain⟨a3,c3,a4,c4,a5,c5,a6,c6,rfl⟩:=hct.eight;have C3:=qaa hct;have Dp:=qaa hnd;have R3:=qaa r3;have Q3:=qaa ((k3.block Q (Yd Q2.out) nQ).trans Q2.out);have K3:=qaa ((Kept.of_below (F:=fun k=>k=rp) X2.out).trans k3);have HS2:Hid (Q<w2.heap.size):=Yd Q2.out;clear Bh hct hnd r3 k3 HI R2 Q2 X2 T2;obtain⟨⟨_,p0⟩,f0,⟨_,p1⟩,f1,⟨_,p2⟩,f2,⟨_,p3⟩,f3,⟨_,p4⟩,f4,⟨_,p5⟩,f5,⟨_,p6⟩,f6,⟨_,p7⟩,f7,Be,Bf⟩:=st8 Q3.out (.int .i64 c.k) (.string ⟨c.nm.toArray⟩) (.string ⟨c.tx.toArray⟩) (.slice a3 c.pre.length c3) (.slice a4 c.sp.length c4) (.slice a5 c.ns.length c5) (.slice a6 c.kids.length c6) (.int .i64 c.p);have Bg:=qaa Be;have KQ:=qaa Bf;clear Be Bf;go_wp2;clear p0 f0 p1 f1 p2 f2 p3 f3 p4 f4 p5 f5 p6 f6 p7 f7;generalize ((((((((w3.setCell ⟨Q,0,none⟩ (.int .i64 c.k)).setCell ⟨Q,1,none⟩ (.string ⟨c.nm.toArray⟩)).setCell ⟨Q,2,none⟩ (.string ⟨c.tx.toArray⟩)).setCell ⟨Q,3,none⟩ (.slice a3 c.pre.length c3)).setCell ⟨Q,4,none⟩ (.slice a4 c.sp.length c4)).setCell ⟨Q,5,none⟩ (.slice a5 c.ns.length c5)).setCell ⟨Q,6,none⟩ (.slice a6 c.kids.length c6)).setCell ⟨Q,7,none⟩ (.int .i64 c.p))=w9 at *;obtain⟨q0,q1,q2,q3,q4,q5,q6,q7⟩:=ld8 Bg.out;refine Yg (by simp[results,Tryz.results77,go_sem,q0,q1,q2,q3,q4,q5,q6,q7];try rfl) rfl ?_;refine qa7.okI (by first|exact Ei.out|rfl) rfl (C3.out.frame KQ.out (fun k hk=>?_) ?_) Dp.out (R3.out.kept KQ.out ?_ ?_) (K3.out.fin KQ.out ?_)
  ·have:=HS2.out
   rw[hk];exact this
  ·have:=HS2.out
   have:=Bi.out;omega
  ·have:=Bc.out
   show ¬rp=Q;omega
  ·have:=Bc.out
   show ¬g=Q;omega
  ·have:=Bi.out
   omega
theorem qpi {rbase rp g cap:Nat} {Ts:List Tk} {i:Nat} {w:World} (x:PR CT) (HC:∀V:World,RdA V rbase rp g cap Ts i→Calls Tryz.prog 119 #[.pointer (some ⟨rp,0,none⟩),.agg #[.string ⟨#[97,110,100]⟩,.int .i64 5,.int .i64 2]] V (qa7 rbase rp g cap Ts V x)) (hR:RdA w rbase rp g cap Ts i):
 Calls Tryz.prog 77 #[.pointer (some ⟨rp,0,none⟩),.int .i64 1] w (qa7 rbase rp g cap Ts w x):=by
 have BU:=qaa HC;obtain⟨Q,hQ⟩:∃Q,Q=w.heap.size:=⟨_,rfl⟩;obtain⟨W,hW⟩:∃W,W=w.alloc (.cells #[.int .i64 0,.string ⟨#[]⟩,.string ⟨#[]⟩,.slice none 0 0,.slice none 0 0,.slice none 0 0,.slice none 0 0,.int .i64 0] 60):=⟨_,rfl⟩;have X0:=qaa (show Below w.heap.size w W by rw[hW];exact al Yj _);have Q0:=qaa (show W.heap[Q]? =some (.cells #[.int .i64 0,.string ⟨#[]⟩,.string ⟨#[]⟩,.slice none 0 0,.slice none 0 0,.slice none 0 0,.slice none 0 0,.int .i64 0] 60 (0,0)) by rw[hW,hQ];exact Yh w _);have R0:=qaa (hR.below X0.out);have Bi:=qaa hQ;have Bc:Hid (rp<Q∧g<Q):=by have:=hR.gl;unfold Hid;omega
 have HO:=qaa (qaq W);clear HC hR;go_enter Tryz.func77,Tryz.ntmps77;go_upto_region 1 with fail
 rw[←hQ,←hW];clear hQ hW;have nQ:Q≠rp:=by have:=Bc.out;omega
 go_upto_region 2 with(go_at_call 116;refine HO.out.mono ?_;rintro e w1 ⟨rfl,x1⟩;have X1:=qaa x1;clear x1)
 have X2:=qaa (bt X0.out (bt X1.out (show Below w1.heap.size w1 (w1.alloc (.cells #[.string ⟨#[111,114]⟩,.int .i64 6,.int .i64 1,.string ⟨#[97,110,100]⟩,.int .i64 5,.int .i64 2,.string ⟨#[110,111,116]⟩,.int .i64 4,.int .i64 2] 152)) from al Yj _) Yi) Yi);have EC:=qaa (bt X1.out (show Below w1.heap.size w1 (w1.alloc (.cells #[.string ⟨#[111,114]⟩,.int .i64 6,.int .i64 1,.string ⟨#[97,110,100]⟩,.int .i64 5,.int .i64 2,.string ⟨#[110,111,116]⟩,.int .i64 4,.int .i64 2] 152)) from al Yj _) Yi);have T2:=qaa (Yh w1 (.cells #[.string ⟨#[111,114]⟩,.int .i64 6,.int .i64 1,.string ⟨#[97,110,100]⟩,.int .i64 5,.int .i64 2,.string ⟨#[110,111,116]⟩,.int .i64 4,.int .i64 2] 152));obtain⟨T,hT⟩:∃T,T=w1.heap.size:=⟨_,rfl⟩;rw[←hT] at T2;rw[←hT];have R2:=qaa (R0.out.below EC.out);have Q2:=qaa ((EC.out.block Q (Yd Q0.out)).trans Q0.out);clear hT EC X1 R0 Q0 X0 HO;generalize w1.alloc (.cells #[.string ⟨#[111,114]⟩,.int .i64 6,.int .i64 1,.string ⟨#[97,110,100]⟩,.int .i64 5,.int .i64 2,.string ⟨#[110,111,116]⟩,.int .i64 4,.int .i64 2] 152)=w2 at *;have q0:w2.cell? ⟨T,0,none⟩=#[.string ⟨#[111,114]⟩,.int .i64 6,.int .i64 1,.string ⟨#[97,110,100]⟩,.int .i64 5,.int .i64 2,.string ⟨#[110,111,116]⟩,.int .i64 4,.int .i64 2][0]? :=by rw[Ye _ _ _ _ _ _ T2.out]
 have q1:w2.cell? ⟨T,1,none⟩=#[.string ⟨#[111,114]⟩,.int .i64 6,.int .i64 1,.string ⟨#[97,110,100]⟩,.int .i64 5,.int .i64 2,.string ⟨#[110,111,116]⟩,.int .i64 4,.int .i64 2][1]? :=by rw[Ye _ _ _ _ _ _ T2.out]
 have q2:w2.cell? ⟨T,2,none⟩=#[.string ⟨#[111,114]⟩,.int .i64 6,.int .i64 1,.string ⟨#[97,110,100]⟩,.int .i64 5,.int .i64 2,.string ⟨#[110,111,116]⟩,.int .i64 4,.int .i64 2][2]? :=by rw[Ye _ _ _ _ _ _ T2.out]
 have q3:w2.cell? ⟨T,3,none⟩=#[.string ⟨#[111,114]⟩,.int .i64 6,.int .i64 1,.string ⟨#[97,110,100]⟩,.int .i64 5,.int .i64 2,.string ⟨#[110,111,116]⟩,.int .i64 4,.int .i64 2][3]? :=by rw[Ye _ _ _ _ _ _ T2.out]
 have q4:w2.cell? ⟨T,4,none⟩=#[.string ⟨#[111,114]⟩,.int .i64 6,.int .i64 1,.string ⟨#[97,110,100]⟩,.int .i64 5,.int .i64 2,.string ⟨#[110,111,116]⟩,.int .i64 4,.int .i64 2][4]? :=by rw[Ye _ _ _ _ _ _ T2.out]
 have q5:w2.cell? ⟨T,5,none⟩=#[.string ⟨#[111,114]⟩,.int .i64 6,.int .i64 1,.string ⟨#[97,110,100]⟩,.int .i64 5,.int .i64 2,.string ⟨#[110,111,116]⟩,.int .i64 4,.int .i64 2][5]? :=by rw[Ye _ _ _ _ _ _ T2.out]
 have q6:w2.cell? ⟨T,6,none⟩=#[.string ⟨#[111,114]⟩,.int .i64 6,.int .i64 1,.string ⟨#[97,110,100]⟩,.int .i64 5,.int .i64 2,.string ⟨#[110,111,116]⟩,.int .i64 4,.int .i64 2][6]? :=by rw[Ye _ _ _ _ _ _ T2.out]
 have q7:w2.cell? ⟨T,7,none⟩=#[.string ⟨#[111,114]⟩,.int .i64 6,.int .i64 1,.string ⟨#[97,110,100]⟩,.int .i64 5,.int .i64 2,.string ⟨#[110,111,116]⟩,.int .i64 4,.int .i64 2][7]? :=by rw[Ye _ _ _ _ _ _ T2.out]
 have q8:w2.cell? ⟨T,8,none⟩=#[.string ⟨#[111,114]⟩,.int .i64 6,.int .i64 1,.string ⟨#[97,110,100]⟩,.int .i64 5,.int .i64 2,.string ⟨#[110,111,116]⟩,.int .i64 4,.int .i64 2][8]? :=by rw[Ye _ _ _ _ _ _ T2.out]
 simp at q0 q1 q2 q3 q4 q5 q6 q7 q8;have HI:=qaa (BU.out w2 R2.out);clear BU;go_wp2_with (fail);refine HI.out.mono ?_;clear q0 q1 q2 q3 q4 q5 q6 q7 q8;intro e w3 hp;cases Bh:x with
 |out=>rw[Bh] at hp;exact absurd hp (fun h=>h)
 |bad e0 p=>
  rw[Bh] at hp;obtain⟨he,k3⟩:=hp;unfold pan at he;subst he;exact⟨rfl,qa7.badI (by first|exact Bh|rfl) rfl ((Kept.of_below X2.out).trans k3)⟩
 |ok c j=>
  have Ei:=qaa Bh;rw[Bh] at hp;obtain⟨⟨vs,bs,rfl,hct,hnd⟩,r3,k3⟩:=hp;obtain⟨a3,c3,a4,c4,a5,c5,a6,c6,rfl⟩:=hct.eight;have C3:=qaa hct;have Dp:=qaa hnd;have R3:=qaa r3;have Q3:=qaa ((k3.block Q (Yd Q2.out) nQ).trans Q2.out);have K3:=qaa ((Kept.of_below (F:=fun k=>k=rp) X2.out).trans k3);have HS2:Hid (Q<w2.heap.size):=Yd Q2.out;clear Bh hct hnd r3 k3 HI R2 Q2 X2 T2;obtain⟨⟨_,p0⟩,f0,⟨_,p1⟩,f1,⟨_,p2⟩,f2,⟨_,p3⟩,f3,⟨_,p4⟩,f4,⟨_,p5⟩,f5,⟨_,p6⟩,f6,⟨_,p7⟩,f7,Be,Bf⟩:=st8 Q3.out (.int .i64 c.k) (.string ⟨c.nm.toArray⟩) (.string ⟨c.tx.toArray⟩) (.slice a3 c.pre.length c3) (.slice a4 c.sp.length c4) (.slice a5 c.ns.length c5) (.slice a6 c.kids.length c6) (.int .i64 c.p);have Bg:=qaa Be;have KQ:=qaa Bf;clear Be Bf;go_wp2;clear p0 f0 p1 f1 p2 f2 p3 f3 p4 f4 p5 f5 p6 f6 p7 f7;generalize ((((((((w3.setCell ⟨Q,0,none⟩ (.int .i64 c.k)).setCell ⟨Q,1,none⟩ (.string ⟨c.nm.toArray⟩)).setCell ⟨Q,2,none⟩ (.string ⟨c.tx.toArray⟩)).setCell ⟨Q,3,none⟩ (.slice a3 c.pre.length c3)).setCell ⟨Q,4,none⟩ (.slice a4 c.sp.length c4)).setCell ⟨Q,5,none⟩ (.slice a5 c.ns.length c5)).setCell ⟨Q,6,none⟩ (.slice a6 c.kids.length c6)).setCell ⟨Q,7,none⟩ (.int .i64 c.p))=w9 at *;obtain⟨q0,q1,q2,q3,q4,q5,q6,q7⟩:=ld8 Bg.out;refine Yg (by simp[results,Tryz.results77,go_sem,q0,q1,q2,q3,q4,q5,q6,q7];try rfl) rfl ?_;refine qa7.okI (by first|exact Ei.out|rfl) rfl (C3.out.frame KQ.out (fun k hk=>?_) ?_) Dp.out (R3.out.kept KQ.out ?_ ?_) (K3.out.fin KQ.out ?_)
  ·have:=HS2.out
   rw[hk];exact this
  ·have:=HS2.out
   have:=Bi.out;omega
  ·have:=Bc.out
   show ¬rp=Q;omega
  ·have:=Bc.out
   show ¬g=Q;omega
  ·have:=Bi.out
   omega
theorem qpj {rbase rp g cap:Nat} {Ts:List Tk} {i:Nat} {w:World} (x:PR CT) (HC:∀V:World,RdA V rbase rp g cap Ts i→Calls Tryz.prog 118 #[.pointer (some ⟨rp,0,none⟩),.agg #[.string ⟨#[110,111,116]⟩,.int .i64 4,.int .i64 2]] V (qa7 rbase rp g cap Ts V x)) (hR:RdA w rbase rp g cap Ts i):
 Calls Tryz.prog 77 #[.pointer (some ⟨rp,0,none⟩),.int .i64 2] w (qa7 rbase rp g cap Ts w x):=by
 have BU:=qaa HC;obtain⟨Q,hQ⟩:∃Q,Q=w.heap.size:=⟨_,rfl⟩;obtain⟨W,hW⟩:∃W,W=w.alloc (.cells #[.int .i64 0,.string ⟨#[]⟩,.string ⟨#[]⟩,.slice none 0 0,.slice none 0 0,.slice none 0 0,.slice none 0 0,.int .i64 0] 60):=⟨_,rfl⟩;have X0:=qaa (show Below w.heap.size w W by rw[hW];exact al Yj _);have Q0:=qaa (show W.heap[Q]? =some (.cells #[.int .i64 0,.string ⟨#[]⟩,.string ⟨#[]⟩,.slice none 0 0,.slice none 0 0,.slice none 0 0,.slice none 0 0,.int .i64 0] 60 (0,0)) by rw[hW,hQ];exact Yh w _);have R0:=qaa (hR.below X0.out);have Bi:=qaa hQ;have Bc:Hid (rp<Q∧g<Q):=by have:=hR.gl;unfold Hid;omega
 have HO:=qaa (qaq W);clear HC hR;go_enter Tryz.func77,Tryz.ntmps77;go_upto_region 1 with fail
 rw[←hQ,←hW];clear hQ hW;have nQ:Q≠rp:=by have:=Bc.out;omega
 go_upto_region 2 with(go_at_call 116;refine HO.out.mono ?_;rintro e w1 ⟨rfl,x1⟩;have X1:=qaa x1;clear x1)
 have X2:=qaa (bt X0.out (bt X1.out (show Below w1.heap.size w1 (w1.alloc (.cells #[.string ⟨#[111,114]⟩,.int .i64 6,.int .i64 1,.string ⟨#[97,110,100]⟩,.int .i64 5,.int .i64 2,.string ⟨#[110,111,116]⟩,.int .i64 4,.int .i64 2] 152)) from al Yj _) Yi) Yi);have EC:=qaa (bt X1.out (show Below w1.heap.size w1 (w1.alloc (.cells #[.string ⟨#[111,114]⟩,.int .i64 6,.int .i64 1,.string ⟨#[97,110,100]⟩,.int .i64 5,.int .i64 2,.string ⟨#[110,111,116]⟩,.int .i64 4,.int .i64 2] 152)) from al Yj _) Yi);have T2:=qaa (Yh w1 (.cells #[.string ⟨#[111,114]⟩,.int .i64 6,.int .i64 1,.string ⟨#[97,110,100]⟩,.int .i64 5,.int .i64 2,.string ⟨#[110,111,116]⟩,.int .i64 4,.int .i64 2] 152));obtain⟨T,hT⟩:∃T,T=w1.heap.size:=⟨_,rfl⟩;rw[←hT] at T2;rw[←hT];have R2:=qaa (R0.out.below EC.out);have Q2:=qaa ((EC.out.block Q (Yd Q0.out)).trans Q0.out);clear hT EC X1 R0 Q0 X0 HO;generalize w1.alloc (.cells #[.string ⟨#[111,114]⟩,.int .i64 6,.int .i64 1,.string ⟨#[97,110,100]⟩,.int .i64 5,.int .i64 2,.string ⟨#[110,111,116]⟩,.int .i64 4,.int .i64 2] 152)=w2 at *;have q0:w2.cell? ⟨T,0,none⟩=#[.string ⟨#[111,114]⟩,.int .i64 6,.int .i64 1,.string ⟨#[97,110,100]⟩,.int .i64 5,.int .i64 2,.string ⟨#[110,111,116]⟩,.int .i64 4,.int .i64 2][0]? :=by rw[Ye _ _ _ _ _ _ T2.out]
 have q1:w2.cell? ⟨T,1,none⟩=#[.string ⟨#[111,114]⟩,.int .i64 6,.int .i64 1,.string ⟨#[97,110,100]⟩,.int .i64 5,.int .i64 2,.string ⟨#[110,111,116]⟩,.int .i64 4,.int .i64 2][1]? :=by rw[Ye _ _ _ _ _ _ T2.out]
 have q2:w2.cell? ⟨T,2,none⟩=#[.string ⟨#[111,114]⟩,.int .i64 6,.int .i64 1,.string ⟨#[97,110,100]⟩,.int .i64 5,.int .i64 2,.string ⟨#[110,111,116]⟩,.int .i64 4,.int .i64 2][2]? :=by rw[Ye _ _ _ _ _ _ T2.out]
 have q3:w2.cell? ⟨T,3,none⟩=#[.string ⟨#[111,114]⟩,.int .i64 6,.int .i64 1,.string ⟨#[97,110,100]⟩,.int .i64 5,.int .i64 2,.string ⟨#[110,111,116]⟩,.int .i64 4,.int .i64 2][3]? :=by rw[Ye _ _ _ _ _ _ T2.out]
 have q4:w2.cell? ⟨T,4,none⟩=#[.string ⟨#[111,114]⟩,.int .i64 6,.int .i64 1,.string ⟨#[97,110,100]⟩,.int .i64 5,.int .i64 2,.string ⟨#[110,111,116]⟩,.int .i64 4,.int .i64 2][4]? :=by rw[Ye _ _ _ _ _ _ T2.out]
 have q5:w2.cell? ⟨T,5,none⟩=#[.string ⟨#[111,114]⟩,.int .i64 6,.int .i64 1,.string ⟨#[97,110,100]⟩,.int .i64 5,.int .i64 2,.string ⟨#[110,111,116]⟩,.int .i64 4,.int .i64 2][5]? :=by rw[Ye _ _ _ _ _ _ T2.out]
 have q6:w2.cell? ⟨T,6,none⟩=#[.string ⟨#[111,114]⟩,.int .i64 6,.int .i64 1,.string ⟨#[97,110,100]⟩,.int .i64 5,.int .i64 2,.string ⟨#[110,111,116]⟩,.int .i64 4,.int .i64 2][6]? :=by rw[Ye _ _ _ _ _ _ T2.out]
 have q7:w2.cell? ⟨T,7,none⟩=#[.string ⟨#[111,114]⟩,.int .i64 6,.int .i64 1,.string ⟨#[97,110,100]⟩,.int .i64 5,.int .i64 2,.string ⟨#[110,111,116]⟩,.int .i64 4,.int .i64 2][7]? :=by rw[Ye _ _ _ _ _ _ T2.out]
 have q8:w2.cell? ⟨T,8,none⟩=#[.string ⟨#[111,114]⟩,.int .i64 6,.int .i64 1,.string ⟨#[97,110,100]⟩,.int .i64 5,.int .i64 2,.string ⟨#[110,111,116]⟩,.int .i64 4,.int .i64 2][8]? :=by rw[Ye _ _ _ _ _ _ T2.out]
 simp at q0 q1 q2 q3 q4 q5 q6 q7 q8;have HI:=qaa (BU.out w2 R2.out);clear BU;go_wp2_with (fail);refine HI.out.mono ?_;clear q0 q1 q2 q3 q4 q5 q6 q7 q8;intro e w3 hp;cases Bh:x with
 |out=>rw[Bh] at hp;exact absurd hp (fun h=>h)
 |bad e0 p=>
  rw[Bh] at hp;obtain⟨he,k3⟩:=hp;unfold pan at he;subst he;exact⟨rfl,qa7.badI (by first|exact Bh|rfl) rfl ((Kept.of_below X2.out).trans k3)⟩
 |ok c j=>
  have Ei:=qaa Bh;rw[Bh] at hp;obtain⟨⟨vs,bs,rfl,hct,hnd⟩,r3,k3⟩:=hp;obtain⟨a3,c3,a4,c4,a5,c5,a6,c6,rfl⟩:=hct.eight;have C3:=qaa hct;have Dp:=qaa hnd;have R3:=qaa r3;have Q3:=qaa ((k3.block Q (Yd Q2.out) nQ).trans Q2.out);have K3:=qaa ((Kept.of_below (F:=fun k=>k=rp) X2.out).trans k3);have HS2:Hid (Q<w2.heap.size):=Yd Q2.out;clear Bh hct hnd r3 k3 HI R2 Q2 X2 T2;obtain⟨⟨_,p0⟩,f0,⟨_,p1⟩,f1,⟨_,p2⟩,f2,⟨_,p3⟩,f3,⟨_,p4⟩,f4,⟨_,p5⟩,f5,⟨_,p6⟩,f6,⟨_,p7⟩,f7,Be,Bf⟩:=st8 Q3.out (.int .i64 c.k) (.string ⟨c.nm.toArray⟩) (.string ⟨c.tx.toArray⟩) (.slice a3 c.pre.length c3) (.slice a4 c.sp.length c4) (.slice a5 c.ns.length c5) (.slice a6 c.kids.length c6) (.int .i64 c.p);have Bg:=qaa Be;have KQ:=qaa Bf;clear Be Bf;go_wp2;clear p0 f0 p1 f1 p2 f2 p3 f3 p4 f4 p5 f5 p6 f6 p7 f7;generalize ((((((((w3.setCell ⟨Q,0,none⟩ (.int .i64 c.k)).setCell ⟨Q,1,none⟩ (.string ⟨c.nm.toArray⟩)).setCell ⟨Q,2,none⟩ (.string ⟨c.tx.toArray⟩)).setCell ⟨Q,3,none⟩ (.slice a3 c.pre.length c3)).setCell ⟨Q,4,none⟩ (.slice a4 c.sp.length c4)).setCell ⟨Q,5,none⟩ (.slice a5 c.ns.length c5)).setCell ⟨Q,6,none⟩ (.slice a6 c.kids.length c6)).setCell ⟨Q,7,none⟩ (.int .i64 c.p))=w9 at *;obtain⟨q0,q1,q2,q3,q4,q5,q6,q7⟩:=ld8 Bg.out;refine Yg (by simp[results,Tryz.results77,go_sem,q0,q1,q2,q3,q4,q5,q6,q7];try rfl) rfl ?_;refine qa7.okI (by first|exact Ei.out|rfl) rfl (C3.out.frame KQ.out (fun k hk=>?_) ?_) Dp.out (R3.out.kept KQ.out ?_ ?_) (K3.out.fin KQ.out ?_)
  ·have:=HS2.out
   rw[hk];exact this
  ·have:=HS2.out
   have:=Bi.out;omega
  ·have:=Bc.out
   show ¬rp=Q;omega
  ·have:=Bc.out
   show ¬g=Q;omega
  ·have:=Bi.out
   omega
theorem qpk {rbase rp g cap:Nat} {Ts:List Tk} {i:Nat} {w:World} (x:PR CT) (HC:∀V:World,RdA V rbase rp g cap Ts i→Calls Tryz.prog 117 #[.pointer (some ⟨rp,0,none⟩)] V (qa7 rbase rp g cap Ts V x)) (hR:RdA w rbase rp g cap Ts i):
 Calls Tryz.prog 77 #[.pointer (some ⟨rp,0,none⟩),.int .i64 3] w (qa7 rbase rp g cap Ts w x):=by
 have BU:=qaa HC;obtain⟨Q,hQ⟩:∃Q,Q=w.heap.size:=⟨_,rfl⟩;obtain⟨W,hW⟩:∃W,W=w.alloc (.cells #[.int .i64 0,.string ⟨#[]⟩,.string ⟨#[]⟩,.slice none 0 0,.slice none 0 0,.slice none 0 0,.slice none 0 0,.int .i64 0] 60):=⟨_,rfl⟩;have X0:=qaa (show Below w.heap.size w W by rw[hW];exact al Yj _);have Q0:=qaa (show W.heap[Q]? =some (.cells #[.int .i64 0,.string ⟨#[]⟩,.string ⟨#[]⟩,.slice none 0 0,.slice none 0 0,.slice none 0 0,.slice none 0 0,.int .i64 0] 60 (0,0)) by rw[hW,hQ];exact Yh w _);have R0:=qaa (hR.below X0.out);have Bi:=qaa hQ;have Bc:Hid (rp<Q∧g<Q):=by have:=hR.gl;unfold Hid;omega
 have HO:=qaa (qaq W);clear HC hR;go_enter Tryz.func77,Tryz.ntmps77;go_upto_region 1 with fail
 rw[←hQ,←hW];clear hQ hW;have nQ:Q≠rp:=by have:=Bc.out;omega
 go_upto_region 2 with(go_at_call 116;refine HO.out.mono ?_;rintro e w1 ⟨rfl,x1⟩;have X1:=qaa x1;clear x1)
 have X2:=qaa (bt X0.out (bt X1.out (show Below w1.heap.size w1 (w1.alloc (.cells #[.string ⟨#[111,114]⟩,.int .i64 6,.int .i64 1,.string ⟨#[97,110,100]⟩,.int .i64 5,.int .i64 2,.string ⟨#[110,111,116]⟩,.int .i64 4,.int .i64 2] 152)) from al Yj _) Yi) Yi);have EC:=qaa (bt X1.out (show Below w1.heap.size w1 (w1.alloc (.cells #[.string ⟨#[111,114]⟩,.int .i64 6,.int .i64 1,.string ⟨#[97,110,100]⟩,.int .i64 5,.int .i64 2,.string ⟨#[110,111,116]⟩,.int .i64 4,.int .i64 2] 152)) from al Yj _) Yi);have T2:=qaa (Yh w1 (.cells #[.string ⟨#[111,114]⟩,.int .i64 6,.int .i64 1,.string ⟨#[97,110,100]⟩,.int .i64 5,.int .i64 2,.string ⟨#[110,111,116]⟩,.int .i64 4,.int .i64 2] 152));obtain⟨T,hT⟩:∃T,T=w1.heap.size:=⟨_,rfl⟩;rw[←hT] at T2;rw[←hT];have R2:=qaa (R0.out.below EC.out);have Q2:=qaa ((EC.out.block Q (Yd Q0.out)).trans Q0.out);clear hT EC X1 R0 Q0 X0 HO;generalize w1.alloc (.cells #[.string ⟨#[111,114]⟩,.int .i64 6,.int .i64 1,.string ⟨#[97,110,100]⟩,.int .i64 5,.int .i64 2,.string ⟨#[110,111,116]⟩,.int .i64 4,.int .i64 2] 152)=w2 at *;have q0:w2.cell? ⟨T,0,none⟩=#[.string ⟨#[111,114]⟩,.int .i64 6,.int .i64 1,.string ⟨#[97,110,100]⟩,.int .i64 5,.int .i64 2,.string ⟨#[110,111,116]⟩,.int .i64 4,.int .i64 2][0]? :=by rw[Ye _ _ _ _ _ _ T2.out]
 have q1:w2.cell? ⟨T,1,none⟩=#[.string ⟨#[111,114]⟩,.int .i64 6,.int .i64 1,.string ⟨#[97,110,100]⟩,.int .i64 5,.int .i64 2,.string ⟨#[110,111,116]⟩,.int .i64 4,.int .i64 2][1]? :=by rw[Ye _ _ _ _ _ _ T2.out]
 have q2:w2.cell? ⟨T,2,none⟩=#[.string ⟨#[111,114]⟩,.int .i64 6,.int .i64 1,.string ⟨#[97,110,100]⟩,.int .i64 5,.int .i64 2,.string ⟨#[110,111,116]⟩,.int .i64 4,.int .i64 2][2]? :=by rw[Ye _ _ _ _ _ _ T2.out]
 have q3:w2.cell? ⟨T,3,none⟩=#[.string ⟨#[111,114]⟩,.int .i64 6,.int .i64 1,.string ⟨#[97,110,100]⟩,.int .i64 5,.int .i64 2,.string ⟨#[110,111,116]⟩,.int .i64 4,.int .i64 2][3]? :=by rw[Ye _ _ _ _ _ _ T2.out]
 have q4:w2.cell? ⟨T,4,none⟩=#[.string ⟨#[111,114]⟩,.int .i64 6,.int .i64 1,.string ⟨#[97,110,100]⟩,.int .i64 5,.int .i64 2,.string ⟨#[110,111,116]⟩,.int .i64 4,.int .i64 2][4]? :=by rw[Ye _ _ _ _ _ _ T2.out]
 have q5:w2.cell? ⟨T,5,none⟩=#[.string ⟨#[111,114]⟩,.int .i64 6,.int .i64 1,.string ⟨#[97,110,100]⟩,.int .i64 5,.int .i64 2,.string ⟨#[110,111,116]⟩,.int .i64 4,.int .i64 2][5]? :=by rw[Ye _ _ _ _ _ _ T2.out]
 have q6:w2.cell? ⟨T,6,none⟩=#[.string ⟨#[111,114]⟩,.int .i64 6,.int .i64 1,.string ⟨#[97,110,100]⟩,.int .i64 5,.int .i64 2,.string ⟨#[110,111,116]⟩,.int .i64 4,.int .i64 2][6]? :=by rw[Ye _ _ _ _ _ _ T2.out]
 have q7:w2.cell? ⟨T,7,none⟩=#[.string ⟨#[111,114]⟩,.int .i64 6,.int .i64 1,.string ⟨#[97,110,100]⟩,.int .i64 5,.int .i64 2,.string ⟨#[110,111,116]⟩,.int .i64 4,.int .i64 2][7]? :=by rw[Ye _ _ _ _ _ _ T2.out]
 have q8:w2.cell? ⟨T,8,none⟩=#[.string ⟨#[111,114]⟩,.int .i64 6,.int .i64 1,.string ⟨#[97,110,100]⟩,.int .i64 5,.int .i64 2,.string ⟨#[110,111,116]⟩,.int .i64 4,.int .i64 2][8]? :=by rw[Ye _ _ _ _ _ _ T2.out]
 simp at q0 q1 q2 q3 q4 q5 q6 q7 q8;have HI:=qaa (BU.out w2 R2.out);clear BU;go_wp2_with (fail);refine HI.out.mono ?_;clear q0 q1 q2 q3 q4 q5 q6 q7 q8;intro e w3 hp;cases Bh:x with
 |out=>rw[Bh] at hp;exact absurd hp (fun h=>h)
 |bad e0 p=>
  rw[Bh] at hp;obtain⟨he,k3⟩:=hp;unfold pan at he;subst he;exact⟨rfl,qa7.badI (by first|exact Bh|rfl) rfl ((Kept.of_below X2.out).trans k3)⟩
 |ok c j=>
  have Ei:=qaa Bh;rw[Bh] at hp;obtain⟨⟨vs,bs,rfl,hct,hnd⟩,r3,k3⟩:=hp;obtain⟨a3,c3,a4,c4,a5,c5,a6,c6,rfl⟩:=hct.eight;have C3:=qaa hct;have Dp:=qaa hnd;have R3:=qaa r3;have Q3:=qaa ((k3.block Q (Yd Q2.out) nQ).trans Q2.out);have K3:=qaa ((Kept.of_below (F:=fun k=>k=rp) X2.out).trans k3);have HS2:Hid (Q<w2.heap.size):=Yd Q2.out;clear Bh hct hnd r3 k3 HI R2 Q2 X2 T2;obtain⟨⟨_,p0⟩,f0,⟨_,p1⟩,f1,⟨_,p2⟩,f2,⟨_,p3⟩,f3,⟨_,p4⟩,f4,⟨_,p5⟩,f5,⟨_,p6⟩,f6,⟨_,p7⟩,f7,Be,Bf⟩:=st8 Q3.out (.int .i64 c.k) (.string ⟨c.nm.toArray⟩) (.string ⟨c.tx.toArray⟩) (.slice a3 c.pre.length c3) (.slice a4 c.sp.length c4) (.slice a5 c.ns.length c5) (.slice a6 c.kids.length c6) (.int .i64 c.p);have Bg:=qaa Be;have KQ:=qaa Bf;clear Be Bf;go_wp2;clear p0 f0 p1 f1 p2 f2 p3 f3 p4 f4 p5 f5 p6 f6 p7 f7;generalize ((((((((w3.setCell ⟨Q,0,none⟩ (.int .i64 c.k)).setCell ⟨Q,1,none⟩ (.string ⟨c.nm.toArray⟩)).setCell ⟨Q,2,none⟩ (.string ⟨c.tx.toArray⟩)).setCell ⟨Q,3,none⟩ (.slice a3 c.pre.length c3)).setCell ⟨Q,4,none⟩ (.slice a4 c.sp.length c4)).setCell ⟨Q,5,none⟩ (.slice a5 c.ns.length c5)).setCell ⟨Q,6,none⟩ (.slice a6 c.kids.length c6)).setCell ⟨Q,7,none⟩ (.int .i64 c.p))=w9 at *;obtain⟨q0,q1,q2,q3,q4,q5,q6,q7⟩:=ld8 Bg.out;refine Yg (by simp[results,Tryz.results77,go_sem,q0,q1,q2,q3,q4,q5,q6,q7];try rfl) rfl ?_;refine qa7.okI (by first|exact Ei.out|rfl) rfl (C3.out.frame KQ.out (fun k hk=>?_) ?_) Dp.out (R3.out.kept KQ.out ?_ ?_) (K3.out.fin KQ.out ?_)
  ·have:=HS2.out
   rw[hk];exact this
  ·have:=HS2.out
   have:=Bi.out;omega
  ·have:=Bc.out
   show ¬rp=Q;omega
  ·have:=Bc.out
   show ¬g=Q;omega
  ·have:=Bi.out
   omega
theorem qc9 {rbase rp g cap:Nat} {Ts:List Tk}:∀(f place i:Nat) (w:World),place≤3→i≤Ts.length→4*(Ts.length-i)+(3-place)+2≤f→RdA w rbase rp g cap Ts i→Calls Tryz.prog 77 #[.pointer (some ⟨rp,0,none⟩),.int .i64 (place:Nat)] w (qa7 rbase rp g cap Ts w (qaf Ts f place i))
 |0,_,_,_,_,_,h,_=>by omega
 |f+1,0,i,w,_,hi,hf,hR=>by
  refine qph _ (fun V hV=>?_) hR;rw[qdu];exact qm8 wOr 6 1 (by decide) (by omega) (fun l V h1 h2 h3=>qc9 f 1 l V (by decide) h1 h2 h3) hV
 |f+1,1,i,w,_,hi,hf,hR=>by
  refine qpi _ (fun V hV=>?_) hR;rw[qd9];exact qm8 qeq 5 2 (by decide) (by omega) (fun l V h1 h2 h3=>qc9 f 2 l V (by decide) h1 h2 h3) hV
 |f+1,2,i,w,_,hi,hf,hR=>by
  refine qpj _ (fun V hV=>?_) hR;exact qrd (by omega) (fun l V h1 h2 h3=>qc9 f 2 l V (by decide) h1 (by omega) h3) (fun l V h1 h2 h3=>qc9 f 3 l V (by decide) h1 (by omega) h3) hV
 |f+1,3,i,w,_,hi,hf,hR=>by
  refine qpk _ (fun V hV=>?_) hR;exact qm7 (by omega) (fun l V h1 h2 h3=>qc9 f 0 l V (by decide) h1 (by omega) h3) hV
 |f+1,n+4,i,w,h,_,_,_=>by omega
end Go.Proofs.YtlmhofjiobmodaaGreatDoor

