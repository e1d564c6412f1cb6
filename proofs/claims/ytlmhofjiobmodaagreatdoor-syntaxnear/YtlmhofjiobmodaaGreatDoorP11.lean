/-
  The reader's first by its contract: what is no operator. Condition: conditions are read so.
-/
import Derived.Test.YtlmhofjiobmodaaGreatDoorP10
set_option maxRecDepth 100000
set_option maxHeartbeats 16000000
namespace Go.Proofs.YtlmhofjiobmodaaGreatDoor
open Go.RowKit Go.Lib
theorem Kept.fin {w w5 w9:World} {rp Q:Nat} (h:Kept (fun k=>k=rp) w w5) (h2:Kept (fun k=>k=Q) w5 w9) (hQ:w.heap.size≤Q):Kept (fun k=>k=rp) w w9:=
 Kept.trans_new h h2 (fun k h1 h2=>absurd h1 (by rw[h2];omega))
theorem RdA.gl {w:World} {rbase rp g cap:Nat} {Ts:List Tk} {i:Nat} (h:RdA w rbase rp g cap Ts i):rp<w.heap.size∧g<w.heap.size:=⟨Yd h.blk,(World.ownsRow.lt h.row g rfl).2⟩
theorem qdj (Ts:List Tk) (word:Nat→By) (i:Nat):∀(n k:Nat),qbu Ts word i n k=0∨(k≤qbu Ts word i n k∧qbu Ts word i n k<k+n∧isT Ts 1 (word (qbu Ts word i n k)) i=true)
 |0,k=>.inl rfl
 |n+1,k=>by
  unfold qbu;by_cases h:isT Ts 1 (word k) i=true
  ·rw[if_pos h]
   exact .inr ⟨Nat.le_refl _,by omega,h⟩
  ·rw[if_neg h]
   rcases qdj Ts word i n (k+1) with h1|⟨h1,h2,h3⟩
   ·exact .inl h1
   ·exact .inr ⟨by omega,by omega,h3⟩
theorem qm6 {w:World} {base cp rbase rp g cap:Nat} {Ts:List Tk} {f i:Nat} {c:CT} {v3 v4 v5:Value} (hk:c.k<7) (hT:TcA w base cp c v3 v4 v5) (hR:RdA w rbase rp g cap Ts i):Calls Tryz.prog 145 #[.pointer (some ⟨rp,0,none⟩),.pointer (some ⟨cp,0,none⟩)] w (qa1 base cp rbase rp g cap Ts w (qa0 Ts f c i)):=by
 have hx:qa0 Ts f c i=.ok c i:=by
  unfold qa0;rw[if_neg (by omega),if_neg (by omega),if_neg (by omega),if_neg (by omega),if_neg (by omega),if_neg (by omega)]
 rw[hx];obtain⟨ck,hck⟩:∃ck,ck=c.k:=⟨_,rfl⟩;rw[←hck] at hk;have b7:(ck==7)=false:=by simp;omega
 have b8:(ck==8)=false:=by simp;omega
 have b9:(ck==9)=false:=by simp;omega
 have b10:(ck==10)=false:=by simp;omega
 have b11:(ck==11)=false:=by simp;omega
 have b12:(ck==12)=false:=by simp;omega
 have XA:=qaa (show Below w.heap.size w (w.alloc (.cells #[.pointer (some ⟨rp,0,none⟩)] 102)) from al Yj _);obtain⟨W,hW⟩:∃W,W=(w.alloc (.cells #[.pointer (some ⟨rp,0,none⟩)] 102)).alloc (.cells #[.pointer (some ⟨cp,0,none⟩)] 177):=⟨_,rfl⟩;have XW:=qaa (show Below w.heap.size w W by rw[hW];exact al XA.out _);obtain⟨rv,BI⟩:∃rv,rv=w.heap.size:=⟨_,rfl⟩;obtain⟨vp,hvp⟩:∃vp,vp=(w.alloc (.cells #[.pointer (some ⟨rp,0,none⟩)] 102)).heap.size:=⟨_,rfl⟩;have HU:=qaa (show W.heap[rv]? =some (.cells #[.pointer (some ⟨rp,0,none⟩)] 102 (0,0)) by
  rw[hW,BI];exact(heap_alloc_old _ _ (by simp)).trans (Yh w _))
 have HV:=qaa (show W.heap[vp]? =some (.cells #[.pointer (some ⟨cp,0,none⟩)] 177 (0,0)) by
  rw[hW,hvp];exact Yh _ _)
 have Dt:vp=w.heap.size+1:=by rw[hvp];simp
 have NE:Hid (vp≠rp∧rv≠rp):=by
  have h1:=Yd hR.blk;exact⟨by omega,by omega⟩
 have R0:=qaa (hR.below XW.out);have L0:Hid (LfK base rp w W):=LfK.of_below XW.out;have T0:=qaa (hT.below XW.out);clear hR hT XA hk hx;have c0:W.cell? ⟨vp,0,none⟩=some (.pointer (some ⟨cp,0,none⟩)):=by rw[Ye _ _ _ _ _ _ HV.out];rfl
 have c1:W.cell? ⟨cp,0,none⟩=some (.int .i64 ck):=by rw[Ye _ _ _ _ _ _ T0.out.blk,hck];rfl
 clear hck;have c2:W.cell? ⟨rv,0,none⟩=some (.pointer (some ⟨rp,0,none⟩)):=by rw[Ye _ _ _ _ _ _ HU.out];rfl
 go_enter Tryz.func145,Tryz.ntmps145;go_upto_region 1 with fail
 rw[←Dt,←hW,←BI];clear hW BI hvp Dt XW;go_wp2;go_end0;exact qa1.okI rfl rfl ⟨_,_,_,T0.out⟩ R0.out L0.out
theorem qpc {w:World} {base cp rbase rp g cap:Nat} {Ts:List Tk} {f i:Nat} {c:CT} {v3 v4 v5:Value} (h1:c.k≤12) (hT:TcA w base cp c v3 v4 v5) (hR:RdA w rbase rp g cap Ts i) (h0:szC c=0) (hne:qa0 Ts f c i≠.out):Calls Tryz.prog 145 #[.pointer (some ⟨rp,0,none⟩),.pointer (some ⟨cp,0,none⟩)] w (qa1 base cp rbase rp g cap Ts w (qa0 Ts f c i)):=by
 by_cases hk:c.k<7
 ·exact qm6 hk hT hR
 ·exact qpb (by omega) hT hR h0 hne
theorem qm7 {rbase rp g cap:Nat} {Ts:List Tk} {f i:Nat} {w:World} (hf:4*(Ts.length-i)+2≤f+1) (IH:∀(l:Nat) (V:World),l≤Ts.length→4*(Ts.length-l)+5≤f→RdA V rbase rp g cap Ts l→Calls Tryz.prog 77 #[.pointer (some ⟨rp,0,none⟩),.int .i64 0] V (qa7 rbase rp g cap Ts V (qaf Ts f 0 l))) (hR:RdA w rbase rp g cap Ts i):
 Calls Tryz.prog 117 #[.pointer (some ⟨rp,0,none⟩)] w (qa7 rbase rp g cap Ts w (qaf Ts (f+1) 3 i)):=by
 obtain⟨x,hx⟩:∃x,x=qaf Ts (f+1) 3 i:=⟨_,rfl⟩;rw[←hx];rw[qc7] at hx;have HX:=qaa hx;have HF:=qaa hf;have J4:=qaa IH;obtain⟨Q,hQ⟩:∃Q,Q=w.heap.size:=⟨_,rfl⟩;obtain⟨W,hW⟩:∃W,W=w.alloc (.cells #[.int .i64 0,.string ⟨#[]⟩,.string ⟨#[]⟩,.slice none 0 0,.slice none 0 0,.slice none 0 0,.slice none 0 0,.int .i64 0] 60):=⟨_,rfl⟩;have X0:=qaa (show Below w.heap.size w W by rw[hW];exact al Yj _);have Q0:=qaa (show W.heap[Q]? =some (.cells #[.int .i64 0,.string ⟨#[]⟩,.string ⟨#[]⟩,.slice none 0 0,.slice none 0 0,.slice none 0 0,.slice none 0 0,.int .i64 0] 60 (0,0)) by rw[hW,hQ];exact Yh w _);have R0:=qaa (hR.below X0.out);have Bi:=qaa hQ;have Bc:Hid (rp<Q∧g<Q):=by have:=hR.gl;unfold Hid;omega
 have DU:=qaa hR.lt;clear hx hf IH hR;have HS:=qaa (qc0 R0.out [40]);go_enter Tryz.func117,Tryz.ntmps117;go_upto_region 1 with fail
 rw[←hQ,←hW];clear hQ hW;by_cases hb:isT Ts 7 [40] i=true
 ·have HN:Hid (i+1<Ts.length):=R0.out.next (by rw[qb0 hb];decide)
  have Bl:Hid (x=(qaf Ts f 0 (i+1)).bind fun c j=>(qak Ts 7 [41] j).bind fun _ l=>.ok c l):=by unfold Hid;rw[HX.out,if_pos hb]
  rw[hb] at HS;clear HX hb;go_upto_region 2 with(go_at_call 143;refine HS.out.mono ?_;rintro e w1 ⟨rfl,x1⟩;have X1:=qaa x1;clear x1)
  have R1:=qaa (R0.out.below X1.out);have Q1:=qaa ((X1.out.block Q (Yd Q0.out)).trans Q0.out);have XA:=qaa (bt X0.out X1.out Yi);clear HS X1 R0 Q0 X0;obtain⟨_,c1⟩:=R1.out.two;have f1:=Yf w1 rp 1 _ _ R1.out.blk;have fw:IntKind.i64.wrap ((i:Int)+1)=(i:Int)+1:=by have:=R1.out.few;have:=HN.out;simp[IntKind.wrap,IntKind.bits,IntKind.signed];omega
  go_upto_region 3 with fail
  clear c1 f1 fw;have R2:=qaa (R1.out.step HN.out);have K2:Hid (Kept (fun k=>k=rp) w1 (w1.setCell ⟨rp,1,none⟩ (.int .i64 ((i:Int)+1)))):=Kept.setCell (F:=fun k=>k=rp) (p:=⟨rp,1,none⟩) (Kept.refl _ _) rfl _;have KA:=qaa ((Kept.of_below (F:=fun k=>k=rp) XA.out).trans K2.out);have nQ:Q≠rp:=by have:=Bc.out;omega
  have Q2:=qaa ((K2.out.block Q (Yd Q1.out) nQ).trans Q1.out);clear R1 Q1 K2 XA;generalize w1.setCell ⟨rp,1,none⟩ (.int .i64 ((i:Int)+1))=w2 at *;have HI:=qaa (J4.out (i+1) w2 (by have:=HN.out;omega) (by have:=HF.out;have:=HN.out;omega) R2.out);clear J4;go_wp2_with (fail);refine HI.out.mono ?_;intro e w3 hp;cases Bh:qaf Ts f 0 (i+1) with
  |out=>rw[Bh] at hp;exact absurd hp (fun h=>h)
  |bad e0 p=>
   rw[Bh] at hp Bl;obtain⟨he,k3⟩:=hp;unfold pan at he;subst he;exact⟨rfl,qa7.badI Bl.out rfl (KA.out.trans k3)⟩
  |ok c j=>
   rw[Bh] at hp Bl;obtain⟨⟨vs,bs,rfl,hct,hnd⟩,r3,k3⟩:=hp;obtain⟨a3,c3,a4,c4,a5,c5,a6,c6,rfl⟩:=hct.eight;have C3:=qaa hct;have Dp:=qaa hnd;have R3:=qaa r3;have K3:=qaa k3;have KB:=qaa (KA.out.trans k3);have BO:Hid (x=(qak Ts 7 [41] j).bind fun _ l=>.ok c l):=Bl.out;have Q3:=qaa ((k3.block Q (Yd Q2.out) nQ).trans Q2.out);have OE:Hid (Q<w2.heap.size):=Yd Q2.out;clear Bh hct hnd r3 k3 Bl HI KA Q2 R2 K3;have X4:Hid (Below w3.heap.size w3 (w3.alloc (.cells #[.int .i64 c.k,.string ⟨c.nm.toArray⟩,.string ⟨c.tx.toArray⟩,.slice a3 c.pre.length c3,.slice a4 c.sp.length c4,.slice a5 c.ns.length c5,.slice a6 c.kids.length c6,.int .i64 c.p] 60))):=al Yj _;have P4:=qaa (Yh w3 (.cells #[.int .i64 c.k,.string ⟨c.nm.toArray⟩,.string ⟨c.tx.toArray⟩,.slice a3 c.pre.length c3,.slice a4 c.sp.length c4,.slice a5 c.ns.length c5,.slice a6 c.kids.length c6,.int .i64 c.p] 60));go_upto_region 4 with fail
   obtain⟨P,hP⟩:∃P,P=w3.heap.size:=⟨_,rfl⟩;rw[←hP] at P4;have BK:Hid (Q<P):=by have:=Yd Q3.out;unfold Hid;omega
   have R4:=qaa (R3.out.below X4.out);have Q4:=qaa ((X4.out.block Q (Yd Q3.out)).trans Q3.out);have C4:=qaa (C3.out.below X4.out);have KC:=qaa (KB.out.trans (Kept.of_below X4.out));generalize w3.alloc (.cells #[.int .i64 c.k,.string ⟨c.nm.toArray⟩,.string ⟨c.tx.toArray⟩,.slice a3 c.pre.length c3,.slice a4 c.sp.length c4,.slice a5 c.ns.length c5,.slice a6 c.kids.length c6,.int .i64 c.p] 60)=w4 at *;rw[←hP];clear hP C3 R3 Q3 X4 KB;by_cases hs:isT Ts 7 [41] j=true
   ·have HT:=qaa (qcu R4.out hs)
    have Bw:Hid (x=.ok c (j+1)):=by unfold Hid;rw[BO.out,qc8 hs];rfl
    clear hs BO;go_upto_region 5 with(go_at_call 75;refine HT.out.mono ?_;rintro e w5 ⟨rfl,r5,k5⟩;have R5:=qaa r5;have K5:=qaa k5;clear r5 k5)
    have nP:P≠rp:=by have:=Bc.out;have:=BK.out;omega
    have P5:=qaa ((K5.out.block P (Yd P4.out) nP).trans P4.out);have Q5:=qaa ((K5.out.block Q (Yd Q4.out) nQ).trans Q4.out);obtain⟨q0,q1,q2,q3,q4,q5,q6,q7⟩:=ld8 P5.out;obtain⟨⟨_,p0⟩,f0,⟨_,p1⟩,f1,⟨_,p2⟩,f2,⟨_,p3⟩,f3,⟨_,p4⟩,f4,⟨_,p5⟩,f5,⟨_,p6⟩,f6,⟨_,p7⟩,f7,Be,Bf⟩:=st8 Q5.out (.int .i64 c.k) (.string ⟨c.nm.toArray⟩) (.string ⟨c.tx.toArray⟩) (.slice a3 c.pre.length c3) (.slice a4 c.sp.length c4) (.slice a5 c.ns.length c5) (.slice a6 c.kids.length c6) (.int .i64 c.p);have Bg:=qaa Be;have KQ:=qaa Bf;clear Be Bf;go_wp2;clear q0 q1 q2 q3 q4 q5 q6 q7;clear p0 f0 p1 f1 p2 f2 p3 f3 p4 f4 p5 f5 p6 f6 p7 f7;generalize ((((((((w5.setCell ⟨Q,0,none⟩ (.int .i64 c.k)).setCell ⟨Q,1,none⟩ (.string ⟨c.nm.toArray⟩)).setCell ⟨Q,2,none⟩ (.string ⟨c.tx.toArray⟩)).setCell ⟨Q,3,none⟩ (.slice a3 c.pre.length c3)).setCell ⟨Q,4,none⟩ (.slice a4 c.sp.length c4)).setCell ⟨Q,5,none⟩ (.slice a5 c.ns.length c5)).setCell ⟨Q,6,none⟩ (.slice a6 c.kids.length c6)).setCell ⟨Q,7,none⟩ (.int .i64 c.p))=w9 at *;obtain⟨q0,q1,q2,q3,q4,q5,q6,q7⟩:=ld8 Bg.out;refine Yg (by simp[results,Tryz.results117,go_sem,q0,q1,q2,q3,q4,q5,q6,q7];try rfl) rfl ?_;have KF:Hid (Kept (fun k=>k=rp∨k=Q) w4 w9):=(K5.out.mono (fun _ h=>.inl h)).trans (KQ.out.mono (fun _ h=>.inr h));refine qa7.okI Bw.out rfl (C4.out.frame KF.out (fun k hk=>?_) ?_) Dp.out (R5.out.kept KQ.out ?_ ?_) ((KC.out.trans K5.out).fin KQ.out ?_)
    ·have:=Bc.out
     have:=OE.out;rcases hk with e|e<;>omega
    ·have:=Bi.out
     have:=OE.out;omega
    ·have:=Bc.out
     show ¬rp=Q;omega
    ·have:=Bc.out
     show ¬g=Q;omega
    ·have:=Bi.out
     omega
   ·have HT:=qaa (qce R4.out hs)
    have Bw:Hid (x=.bad 90 (tok Ts j).p):=by unfold Hid;rw[BO.out,qco hs];rfl
    generalize (tok Ts j).p=zp at *;clear hs BO;go_wp2_with (go_at_call 75;refine HT.out.mono ?_;rintro e w6 ⟨he,x6⟩;unfold pan at he;subst he;have X6:=qaa x6;clear x6);exact⟨rfl,qa7.badI Bw.out rfl (KC.out.trans (Kept.of_below X6.out))⟩
 ·have hb':isT Ts 7 [40] i=false:=by simpa using hb
  have Bl:Hid (x=if (tok Ts i).k=2 then .ok (.mk 3 (tok Ts i).t [] [] [] [] [] (tok Ts i).p) (i+1)
   else if qbd Ts i=0 then .bad 90 (tok Ts i).p
   else qa0 Ts f (.mk (qbd Ts i:Nat) [] [] [] [] [] [] (tok Ts i).p) (i+1)):=by unfold Hid;rw[HX.out,if_neg hb]
  rw[hb'] at HS;clear HX hb hb' J4;go_upto_region 6 with(go_at_call 143;refine HS.out.mono ?_;rintro e w1 ⟨rfl,x1⟩;have X1:=qaa x1;clear x1)
  have R1:=qaa (R0.out.below X1.out);have Q1:=qaa ((X1.out.block Q (Yd Q0.out)).trans Q0.out);have XA:=qaa (bt X0.out X1.out Yi);have nQ:Q≠rp:=by have:=Bc.out;omega
  clear HS X1 R0 Q0 X0;have HT:=qaa (qcd R1.out);unfold tkV at HT;obtain⟨z,hz⟩:∃z,z=tok Ts i:=⟨_,rfl⟩;rw[←hz] at HT Bl;have HZ:=qaa hz;clear hz;go_upto_region 7 with(go_at_call 50;refine HT.out.mono ?_;rintro e w2 ⟨rfl,x2⟩;have X2:=qaa x2;clear x2)
  have X3:Hid (Below w2.heap.size w2 (w2.alloc (.cells #[.int .i64 z.k,.string ⟨z.t.toArray⟩,.int .i64 z.n,.int .i64 z.a,.int .i64 z.b,.int .i64 z.p] 49))):=al Yj _;have P3:=qaa (Yh w2 (.cells #[.int .i64 z.k,.string ⟨z.t.toArray⟩,.int .i64 z.n,.int .i64 z.a,.int .i64 z.b,.int .i64 z.p] 49));obtain⟨P,hP⟩:∃P,P=w2.heap.size:=⟨_,rfl⟩;rw[←hP] at P3;have XB:=qaa (bt XA.out (bt X2.out X3.out Yi) Yi);have Nn:=qaa (bt X2.out X3.out Yi);have R3:=qaa (R1.out.below Nn.out);have Q3:=qaa ((Nn.out.block Q (Yd Q1.out)).trans Q1.out);have Re:Hid (Q<P):=by have:=X2.out.size;have:=Yd Q1.out;unfold Hid;omega
  rw[←hP];generalize w2.alloc (.cells #[.int .i64 z.k,.string ⟨z.t.toArray⟩,.int .i64 z.n,.int .i64 z.a,.int .i64 z.b,.int .i64 z.p] 49)=w3 at *;clear hP X3 X2 XA R1 Q1 Nn HT;have g0:w3.cell? ⟨P,0,none⟩=some (.int .i64 z.k):=by rw[Ye _ _ _ _ _ _ P3.out];rfl
  by_cases hk:z.k=2
  ·have hk':(z.k==2)=true:=by simpa using hk
   have BO:Hid (x=.ok (.mk 3 z.t [] [] [] [] [] z.p) (i+1)):=by unfold Hid;rw[Bl.out,if_pos hk]
   have HN:Hid (i+1<Ts.length):=R3.out.next (by rw[←HZ.out,hk];decide);clear hk Bl;go_upto_region 8 with fail
   have R1:=qaa R3.out;have XA:=qaa XB.out;clear R3 XB g0 hk';obtain⟨_,c1⟩:=R1.out.two;have f1:=Yf w3 rp 1 _ _ R1.out.blk;have fw:IntKind.i64.wrap ((i:Int)+1)=(i:Int)+1:=by have:=R1.out.few;have:=HN.out;simp[IntKind.wrap,IntKind.bits,IntKind.signed];omega
   go_upto_region 9 with fail
   clear c1 f1 fw;have R2:=qaa (R1.out.step HN.out);have K2:Hid (Kept (fun k=>k=rp) w3 (w3.setCell ⟨rp,1,none⟩ (.int .i64 ((i:Int)+1)))):=Kept.setCell (F:=fun k=>k=rp) (p:=⟨rp,1,none⟩) (Kept.refl _ _) rfl _;have KA:=qaa ((Kept.of_below (F:=fun k=>k=rp) XA.out).trans K2.out);have Q2:=qaa ((K2.out.block Q (Yd Q3.out) nQ).trans Q3.out);have nP:P≠rp:=by have:=Bc.out;have:=Re.out;omega
   have P2:=qaa ((K2.out.block P (Yd P3.out) nP).trans P3.out);clear R1 Q3 P3 K2 XA;generalize w3.setCell ⟨rp,1,none⟩ (.int .i64 ((i:Int)+1))=w4 at *;have g1:w4.cell? ⟨P,1,none⟩=some (.string ⟨z.t.toArray⟩):=by rw[Ye _ _ _ _ _ _ P2.out];rfl
   have g2:w4.cell? ⟨P,5,none⟩=some (.int .i64 z.p):=by rw[Ye _ _ _ _ _ _ P2.out];rfl
   obtain⟨⟨_,p0⟩,f0,⟨_,p1⟩,f1,⟨_,p2⟩,f2,⟨_,p3⟩,f3,⟨_,p4⟩,f4,⟨_,p5⟩,f5,⟨_,p6⟩,f6,⟨_,p7⟩,f7,Be,Bf⟩:=st8 Q2.out (.int .i64 3) (.string ⟨z.t.toArray⟩) (.string ⟨#[]⟩) (.slice none 0 0) (.slice none 0 0) (.slice none 0 0) (.slice none 0 0) (.int .i64 z.p);have Bg:=qaa Be;have KQ:=qaa Bf;clear Be Bf;go_wp2;clear p0 f0 p1 f1 p2 f2 p3 f3 p4 f4 p5 f5 p6 f6 p7 f7;generalize ((((((((w4.setCell ⟨Q,0,none⟩ (.int .i64 3)).setCell ⟨Q,1,none⟩ (.string ⟨z.t.toArray⟩)).setCell ⟨Q,2,none⟩ (.string ⟨#[]⟩)).setCell ⟨Q,3,none⟩ (.slice none 0 0)).setCell ⟨Q,4,none⟩ (.slice none 0 0)).setCell ⟨Q,5,none⟩ (.slice none 0 0)).setCell ⟨Q,6,none⟩ (.slice none 0 0)).setCell ⟨Q,7,none⟩ (.int .i64 z.p))=w9 at *;obtain⟨q0,q1,q2,q3,q4,q5,q6,q7⟩:=ld8 Bg.out;refine Yg (by simp[results,Tryz.results117,go_sem,q0,q1,q2,q3,q4,q5,q6,q7];try rfl) rfl ?_;refine qa7.okI BO.out rfl (qaj.leaf w9 _ 3 z.t [] z.p) List.nodup_nil (R2.out.kept KQ.out ?_ ?_) (KA.out.fin KQ.out ?_)
   ·have:=Bc.out
    show ¬rp=Q;omega
   ·have:=Bc.out
    show ¬g=Q;omega
   ·have:=Bi.out
    omega
  ·have hk':(z.k==2)=false:=by simpa using hk
   have BO:Hid (x=if qbd Ts i=0 then .bad 90 z.p
    else qa0 Ts f (.mk (qbd Ts i:Nat) [] [] [] [] [] [] z.p) (i+1)):=by unfold Hid;rw[Bl.out,if_neg hk]
   clear hk Bl;go_upto_region 10 with fail
   clear g0 hk';have HT:=qaa (qe5 R3.out);by_cases h0:qbd Ts i=0
   ·rw[h0] at HT
    have Bw:Hid (x=.bad 90 z.p):=by unfold Hid;rw[BO.out,if_pos h0]
    have E8:=qaa (fun V (y:Below w3.heap.size w3 V)=>qb7 (R3.out.below y) 90);rw[←HZ.out] at E8;clear h0 BO;go_wp2_with (first
     |(go_at_call 144;refine HT.out.mono ?_;rintro e w4 ⟨rfl,x4⟩;have X4:=qaa x4;clear x4)
     |(go_at_call 52;refine(E8.out _ X4.out).mono ?_;rintro e w6 ⟨he,x6⟩;unfold pan at he;subst he;have X6:=qaa (bt X4.out x6 Yi);clear x6))
    exact⟨rfl,qa7.badI Bw.out rfl (Kept.of_below (bt XB.out X6.out Yi))⟩
   ·have Bw:Hid (x=qa0 Ts f (.mk (qbd Ts i:Nat) [] [] [] [] [] [] z.p) (i+1)):=by unfold Hid;rw[BO.out,if_neg h0]
    have HK:Hid (qbd Ts i≤12∧isT Ts 1 (qeu (qbd Ts i)) i=true):=by
     rcases qdj Ts qeu i 12 1 with h|⟨h1,h2,h3⟩
     ·exact absurd h h0
     ·exact⟨by unfold qbd;omega,h3⟩
    have DK:Hid ((tok Ts i).k=1):=qb0 HK.out.2;have De:=qaa HK.out.1;generalize qbd Ts i=m at *;have hm:((m:Int)==0)=false:=by simp;omega
    clear h0 BO HK;go_upto_region 13 with(go_at_call 144;refine HT.out.mono ?_;rintro e w4 ⟨rfl,x4⟩;have X4:=qaa x4;clear x4)
    clear hm;have R4:=qaa (R3.out.below X4.out);have Q4:=qaa ((X4.out.block Q (Yd Q3.out)).trans Q3.out);have XC:=qaa (bt XB.out X4.out Yi);clear HT X4 R3 Q3 XB P3;have HT:=qaa (qbk R4.out DK.out (by decide));unfold tkV at HT;rw[←HZ.out] at HT;have hf:=qsh;go_upto_region 14 with(go_at_call 74;refine HT.out.mono ?_;rintro e w5 ⟨rfl,r5,k5⟩;have R5:=qaa r5;have K5:=qaa k5;clear r5 k5)
    clear hf;have Q5:=qaa ((K5.out.block Q (Yd Q4.out) nQ).trans Q4.out);have KD:=qaa ((Kept.of_below (F:=fun k=>k=rp) XC.out).trans K5.out);obtain⟨cp,hcp⟩:∃cp,cp=w5.heap.size:=⟨_,rfl⟩;have X6:Hid (Below w5.heap.size w5 (w5.alloc (.cells #[.int .i64 (m:Nat),.string ⟨#[]⟩,.string ⟨#[]⟩,.slice none 0 0,.slice none 0 0,.slice none 0 0,.slice none 0 0,.int .i64 z.p] 60))):=al Yj _;have P6:=qaa (Yh w5 (.cells #[.int .i64 (m:Nat),.string ⟨#[]⟩,.string ⟨#[]⟩,.slice none 0 0,.slice none 0 0,.slice none 0 0,.slice none 0 0,.int .i64 z.p] 60));have Np:Hid (Q<cp):=by have:=Yd Q5.out;unfold Hid;omega
    have R6:=qaa (R5.out.below X6.out);have Q6:=qaa ((X6.out.block Q (Yd Q5.out)).trans Q5.out);rw[←hcp] at P6;have OG:=qaa hcp;rw[←hcp];clear HT K5 R4 Q4 XC R5 Q5 hcp;generalize w5.alloc (.cells #[.int .i64 (m:Nat),.string ⟨#[]⟩,.string ⟨#[]⟩,.slice none 0 0,.slice none 0 0,.slice none 0 0,.slice none 0 0,.int .i64 z.p] 60)=w6 at *;have T6:Hid (TcA w6 cp cp (.mk (m:Nat) [] [] [] [] [] [] z.p) (.slice none 0 0) (.slice none 0 0) (.slice none 0 0)):=⟨P6.out,qau _ _ _ _,qau _ _ _ _,qau _ _ _ _,rfl,Nat.le_refl _⟩;have Jh:Hid (i+1≤Ts.length):=by have:=DU.out;unfold Hid;omega
    have Nq:=qaa (qpc (f:=f) (by have:=De.out;show((m:Nat):Int)≤12;omega) T6.out R6.out rfl (qhy f _ (i+1) (by have:=HF.out;have:=DU.out;omega) Jh.out).ne);rw[←Bw.out] at Nq;clear P6 T6;go_wp2_with (fail);refine Nq.out.mono ?_;intro e w7 hp;cases Bh:x with
    |out=>rw[Bh] at hp;exact absurd hp (fun h=>h)
    |bad e0 p=>
     rw[Bh] at hp;obtain⟨he,l7⟩:=hp;unfold pan at he;subst he;have L7:LfK cp rp w5 w7:=(LfK.of_below X6.out).trans l7;exact⟨rfl,qa7.badI rfl rfl (KD.out.trans (L7.rp (by rw[OG.out];exact Nat.le_refl _)))⟩
    |ok c' j=>
     rw[Bh] at hp;obtain⟨rfl,⟨v3,v4,v5,t7⟩,r7,l7⟩:=hp;obtain⟨a3,c3,e3,_⟩:=qad t7.o3;obtain⟨a4,c4,e4,_⟩:=qad t7.o4;obtain⟨a5,c5,e5,_⟩:=qad t7.o5;subst e3;subst e4;subst e5;have L7:Hid (LfK cp rp w5 w7):=(LfK.of_below X6.out).trans l7;have Q7:Hid (w7.heap[Q]? =some (.cells #[.int .i64 0,.string ⟨#[]⟩,.string ⟨#[]⟩,.slice none 0 0,.slice none 0 0,.slice none 0 0,.slice none 0 0,.int .i64 0] 60 (0,0))):=(l7.block Q (Yd Q6.out) (fun hf=>by
      rcases hf with e|⟨h,_⟩
      ·exact nQ e
      ·have:=Np.out;omega)).trans Q6.out
     have T7:=qaa t7;have R7:=qaa r7;have Ei:=qaa Bh;clear Bw Bh t7 r7 l7 Nq R6 Q6 X6;obtain⟨q0,q1,q2,q3,q4,q5,q6,q7⟩:=ld8 T7.out.blk;obtain⟨⟨_,p0⟩,f0,⟨_,p1⟩,f1,⟨_,p2⟩,f2,⟨_,p3⟩,f3,⟨_,p4⟩,f4,⟨_,p5⟩,f5,⟨_,p6⟩,f6,⟨_,p7⟩,f7,Be,Bf⟩:=st8 Q7.out (.int .i64 c'.k) (.string ⟨c'.nm.toArray⟩) (.string ⟨c'.tx.toArray⟩) (.slice a3 c'.pre.length c3) (.slice a4 c'.sp.length c4) (.slice a5 c'.ns.length c5) (.slice none 0 0) (.int .i64 c'.p);have Bg:=qaa Be;have KQ:=qaa Bf;clear Be Bf;go_wp2;clear q0 q1 q2 q3 q4 q5 q6 q7;clear p0 f0 p1 f1 p2 f2 p3 f3 p4 f4 p5 f5 p6 f6 p7 f7;generalize ((((((((w7.setCell ⟨Q,0,none⟩ (.int .i64 c'.k)).setCell ⟨Q,1,none⟩ (.string ⟨c'.nm.toArray⟩)).setCell ⟨Q,2,none⟩ (.string ⟨c'.tx.toArray⟩)).setCell ⟨Q,3,none⟩ (.slice a3 c'.pre.length c3)).setCell ⟨Q,4,none⟩ (.slice a4 c'.sp.length c4)).setCell ⟨Q,5,none⟩ (.slice a5 c'.ns.length c5)).setCell ⟨Q,6,none⟩ (.slice none 0 0)).setCell ⟨Q,7,none⟩ (.int .i64 c'.p))=w9 at *;obtain⟨q0,q1,q2,q3,q4,q5,q6,q7⟩:=ld8 Bg.out;refine Yg (by simp[results,Tryz.results117,go_sem,q0,q1,q2,q3,q4,q5,q6,q7];try rfl) rfl ?_;refine qa7.okI (by first|exact Ei.out|rfl) rfl (T7.out.ct.frame KQ.out (fun k hk=>?_) ?_) T7.out.nodup (R7.out.kept KQ.out ?_ ?_) ((KD.out.trans (L7.out.rp (by rw[OG.out];exact Nat.le_refl _))).fin KQ.out ?_)
     ·have:=Np.out
      rw[hk];omega
     ·have:=Np.out
      have:=Bi.out;omega
     ·have:=Bc.out
      show ¬rp=Q;omega
     ·have:=Bc.out
      show ¬g=Q;omega
     ·have:=Bi.out
      omega
end Go.Proofs.YtlmhofjiobmodaaGreatDoor

