/-
  The document's not by its contract. Condition: conditions are read so.
-/
import Derived.Test.YtlmhofjiobmodaaGreatDoorP43
import Derived.Deep.DeepCutAuto
import Derived.Deep.CutBlock
set_option maxRecDepth 100000
set_option maxHeartbeats 16000000
namespace Go.Proofs.YtlmhofjiobmodaaGreatDoor
open Go.RowKit Go.Lib
theorem qdw.ofX {w':World} {b:Nat} {x X:PR CT} {v:Value} {d e q e1 q1:Int} {i':Nat} (hX:X=if e=0 then x else .bad e q) (H:(e1=0∧q1=0∧∃c vs bs,v=.agg vs.toArray∧d=(dpt c:Nat)∧qaj w' b c vs bs∧bs.Nodup∧X=.ok c i')∨(e1≠0∧X=.bad e1 q1)):
 (e=0∧e1=0∧q1=0∧∃c vs bs,v=.agg vs.toArray∧d=(dpt c:Nat)∧qaj w' b c vs bs∧bs.Nodup∧x=.ok c i')∨(e1≠0∧(e=0→x=.bad e1 q1)∧(e≠0→e1=e∧q1=q)):=by
 by_cases he:e=0
 ·rw[if_pos he] at hX
  subst hX;rcases H with⟨h1,h2,h3⟩|⟨h1,h2⟩
  ·exact .inl ⟨he,h1,h2,h3⟩
  ·exact .inr ⟨h1,fun _=>h2,fun h=>absurd he h⟩
 ·rw[if_neg he] at hX
  subst hX;rcases H with⟨h1,h2,c,vs,bs,_,_,_,_,h3⟩|⟨h1,h2⟩
  ·cases h3
  ·cases h2
   exact .inr ⟨h1,fun h=>absurd h he,fun _=>⟨rfl,rfl⟩⟩
theorem qkx {w:World} {base rp g cap:Nat} {Ts:List Tk} {f i:Nat} {e q:Int} (hg:GdT Ts) (hf:e=0→4*(Ts.length-i)+2≤f+1) (hq:e=0→q=0)
 (OZ:e=0→∀(l:Nat) (V:World),l≤Ts.length→4*(Ts.length-l)+3≤f+1→DpA V base rp g cap Ts l 0 0→Calls Tryz.prog 124 #[.pointer (some ⟨rp,0,none⟩)] V (qdw base rp g cap Ts V 0 0 (qaf Ts (f+1) 2 l)))
 (Pb:e=0→∀(l:Nat) (V:World),l≤Ts.length→4*(Ts.length-l)+5≤f→DpA V base rp g cap Ts l 0 0→Calls Tryz.prog 58 #[.pointer (some ⟨rp,0,none⟩),.string ⟨#[111,114]⟩] V (qdw base rp g cap Ts V 0 0 (qaf Ts f 0 l)))
 (h:DpA w base rp g cap Ts i e q):Calls Tryz.prog 124 #[.pointer (some ⟨rp,0,none⟩)] w (qdw base rp g cap Ts w e q (qaf Ts (f+2) 2 i)):=by
 obtain⟨x,hx⟩:∃x,x=qaf Ts (f+2) 2 i:=⟨_,rfl⟩;rw[←hx];obtain⟨X,hX⟩:∃X,X=if e=0 then x else .bad e q:=⟨_,rfl⟩
 have Dx:=qaa hX;obtain⟨z,hz⟩:∃z,z=tok Ts i:=⟨_,rfl⟩;have L0:Hid (Lv X (fun l=>if isT Ts 1 qg2 l=true then(fun l=>(qaf Ts (f+1) 2 l).bind fun c j=>qbl (.mk 4 [] [] [] [] [] [c] z.p) j) (l+1) else(fun l=>qaf Ts (f+1) 3 l) l) i e q):=by
  by_cases he:e=0
  ·refine .inl ⟨he,hq he,?_⟩
   rw[hX,if_pos he,hx,qdg,hz]
  ·exact .inr ⟨he,by rw[hX,if_neg he]⟩
 have HZ:=qaa hz;have Bp:=qaa hg;have HF:=qaa hf;have HN:=qaa OZ;have HR:=qaa Pb;obtain⟨Q,hQ⟩:∃Q,Q=w.heap.size:=⟨_,rfl⟩;obtain⟨W,hW⟩:∃W,W=w.alloc (.cells #[.int .i64 0,.string ⟨#[]⟩,.string ⟨#[]⟩,.slice none 0 0,.slice none 0 0,.slice none 0 0,.slice none 0 0,.int .i64 0] 60):=⟨_,rfl⟩;have X0:=qaa (show Below w.heap.size w W by rw[hW];exact al Yj _);have Q0:=qaa (show W.heap[Q]? =some (.cells #[.int .i64 0,.string ⟨#[]⟩,.string ⟨#[]⟩,.slice none 0 0,.slice none 0 0,.slice none 0 0,.slice none 0 0,.int .i64 0] 60 (0,0)) by rw[hW,hQ];exact Yh w _);have D:=qaa (h.below X0.out);have Bi:=qaa hQ;have Bc:Hid (rp<Q∧g<Q):=by have:=h.gl;unfold Hid;omega
 have DU:=qaa h.lt;have Dy:=qaa h.few;clear hX hx hz hg hf hq OZ Pb h;go_enter Tryz.func124,Tryz.ntmps124;go_upto_region 1 with fail
 rw[←hQ,←hW];clear hQ hW;have HQ:Hid (∀V,Below W.heap.size W V→(V.cell? ⟨rp,0,none⟩=some (.slice (some ⟨g,0,none⟩) Ts.length cap)∧V.cell? ⟨rp,1,none⟩=some (.int .i64 (i:Nat)))∧V.cell? ⟨g,i*6,none⟩=some (.int .i64 z.k)∧V.cell? ⟨g,i*6+1,none⟩=some (.string ⟨z.t.toArray⟩)∧V.cell? ⟨g,i*6+2,none⟩=some (.int .i64 z.n)∧V.cell? ⟨g,i*6+3,none⟩=some (.int .i64 z.a)∧V.cell? ⟨g,i*6+4,none⟩=some (.int .i64 z.b)∧V.cell? ⟨g,i*6+5,none⟩=some (.int .i64 z.p)):=fun V y=>by
  have h:=D.out.below y;rw[HZ.out];exact⟨h.two,h.cells⟩
 have hlt:(i:Int)<Ts.length:=by have:=D.out.lt;omega
 refine qam (S:=fun V=>Below W.heap.size W V) 11 (by kernel_rfl) ?_;have Bb:Hid (Below W.heap.size W W.drew):=Yj.drew;generalize W.drew=w1 at *;refine qac.tk 0 rfl 11 Bb.out (fun a b=>by obtain⟨⟨_,_⟩,_,_,_,_,_,_⟩:=HQ.out a b;go_simp;first|done|rfl) ?_
 try simp only[Act.put,Ya,Yb,Yc]
 refine qac.tk 1 rfl 12 Bb.out (fun a b=>by obtain⟨⟨_,_⟩,_,_,_,_,_,_⟩:=HQ.out a b;go_simp;first|done|rfl) ?_
 try simp only[Act.put,Ya,Yb,Yc]
 refine qac.tk 2 rfl 13 Bb.out (fun a b=>by obtain⟨⟨_,_⟩,_,_,_,_,_,_⟩:=HQ.out a b;go_simp;first|done|rfl) ?_
 try simp only[Act.put,Ya,Yb,Yc]
 refine qac.tk 3 rfl 14 Bb.out (fun a b=>by obtain⟨⟨_,_⟩,_,_,_,_,_,_⟩:=HQ.out a b;go_simp;first|done|rfl) ?_
 try simp only[Act.put,Ya,Yb,Yc]
 refine qac.tk 4 rfl 15 Bb.out (fun a b=>by obtain⟨⟨_,_⟩,_,_,_,_,_,_⟩:=HQ.out a b;go_simp;first|done|rfl) ?_
 try simp only[Act.put,Ya,Yb,Yc]
 refine qac.tk 5 rfl 16 Bb.out (fun a b=>by obtain⟨⟨_,_⟩,_,_,_,_,_,_⟩:=HQ.out a b;go_simp;first|done|rfl) ?_
 try simp only[Act.put,Ya,Yb,Yc]
 refine qac.tk 6 rfl 17 Bb.out (fun a b=>by obtain⟨⟨_,_⟩,_,_,_,_,_,_⟩:=HQ.out a b;go_simp;first|done|rfl) ?_
 try simp only[Act.put,Ya,Yb,Yc]
 refine qac.tk 7 rfl 18 Bb.out (fun a b=>by obtain⟨⟨_,_⟩,_,_,_,_,_,_⟩:=HQ.out a b;go_simp;first|done|rfl) ?_
 try simp only[Act.put,Ya,Yb,Yc]
 refine qac.tk 8 rfl 19 Bb.out (fun a b=>by obtain⟨⟨_,_⟩,_,_,_,_,_,_⟩:=HQ.out a b;go_simp;first|done|rfl) ?_
 try simp only[Act.put,Ya,Yb,Yc]
 refine qac.tk 9 rfl 20 Bb.out (fun a b=>by obtain⟨⟨_,_⟩,_,_,_,_,_,_⟩:=HQ.out a b;go_simp;first|done|rfl) ?_
 try simp only[Act.put,Ya,Yb,Yc]
 refine qac.tk 10 rfl 21 Bb.out (fun a b=>by obtain⟨⟨_,_⟩,_,_,_,_,_,_⟩:=HQ.out a b;go_simp;first|done|rfl) ?_
 try simp only[Act.put,Ya,Yb,Yc]
 refine qac.lst rfl fun K hK=>?_
 go_simp;refine hK _ _ ?_;clear hK K;have D1:=qaa (D.out.below Bb.out);have Q1:=qaa ((Bb.out.block Q (Yd Q0.out)).trans Q0.out);have KR:Hid (Kept (fun k=>k=rp) w w1):=Kept.of_below (bt X0.out Bb.out Yi);have nQ:Q≠rp:=by have:=Bc.out;omega
 clear HQ hlt Bb D Q0 X0;go_upto_region 2 with fail
 have Dm:=qaa (qcv (y1:=fun l=>(qaf Ts (f+1) 2 l).bind fun c j=>qbl (.mk 4 [] [] [] [] [] [c] z.p) j) (y2:=fun l=>qaf Ts (f+1) 3 l) (fun l hl=>qbo Bp.out (by decide) hl) D1.out L0.out);have hwn:(⟨qg2.toArray⟩:ByteArray)=⟨#[110,111,116]⟩:=rfl;rw[hwn] at Dm;clear hwn;go_upto_region 3 with(go_at_call 85;refine Dm.out.mono ?_;rintro e' w2 ⟨b,i2,e2,qq2,rfl,d2,h1,h2,k2⟩;have D2:=qaa d2;have H1:=qaa h1;have H2:=qaa h2;have K2:=qaa k2;clear d2 h1 h2 k2)
 have Q2:=qaa ((K2.out.block Q (Yd Q1.out) nQ).trans Q1.out);have KA:=qaa (KR.out.trans K2.out);clear Dm D1 Q1 KR K2 L0;cases b with
 |true=>
  obtain⟨he,h1,h2,h3,h4,h5⟩:=H1.out rfl;subst h1;subst h2;subst h3;have Ei:Hid (X=(qaf Ts (f+1) 2 (i+1)).bind fun c j=>qbl (.mk 4 [] [] [] [] [] [c] z.p) j):=h5;have JG:Hid (i+1<Ts.length):=D2.out.lt;have JN:=qaa he;clear H1 H2 he h4 h5;have HI:=qaa (HN.out JN.out (i+1) w2 (by have:=JG.out;omega) (by have:=HF.out JN.out;have:=JG.out;omega) D2.out);go_upto_region 4 with fail
  go_wp2_with (fail);refine HI.out.mono ?_;rintro e' w3 ⟨v,d,i3,e3,qq3,rfl,⟨k,nm,tx,a3,n3,c3,a4,n4,c4,a5,n5,c5,a6,n6,c6,p,rfl⟩,d3,k3,h3⟩;have D3:=qaa d3;have HJ:Hid (∃cc,(e3=0→qq3=0∧X=qbl (.mk 4 [] [] [] [] [] [cc] z.p) i3∧dpt cc≤16∧d=(dpt cc:Nat)∧∃vs bs,(.agg #[.int .i64 k,.string nm,.string tx,.slice a3 n3 c3,.slice a4 n4 c4,.slice a5 n5 c5,.slice a6 n6 c6,.int .i64 p]:Value)=.agg vs.toArray∧qaj w3 w2.heap.size cc vs bs∧bs.Nodup)∧(e3≠0→X=.bad e3 qq3)):=by
   rcases h3 with⟨_,h1,h2,c,vs,bs,h4,h5,h6,h7,h8⟩|⟨h1,h2,_⟩
   ·refine⟨c,fun _=>⟨h2,by rw[Ei.out,h8];rfl,(qay (f+1) 2 (i+1) c i3 (by decide) (by have:=JG.out;omega) (by have:=HF.out JN.out;have:=JG.out;omega) h8).1,h5,vs,bs,h4,h6,h7⟩,fun h=>absurd h1 h⟩
   ·exact⟨.mk 0 [] [] [] [] [] [] 0,fun h=>absurd h h1,fun _=>by rw[Ei.out,h2 rfl];rfl⟩
  obtain⟨cc,hj1,hj2⟩:=HJ.out;have BX:=qaa hj1;have HJ2:=qaa hj2;clear HJ hj1 hj2;have Q3:=qaa ((k3.block Q (Yd Q2.out) nQ).trans Q2.out);have KB:=qaa (KA.out.trans k3);have HW2:Hid (Q<w2.heap.size∧w2.heap.size≤w3.heap.size):=⟨Yd Q2.out,k3.size⟩;clear d3 h3 k3 HI D2 Q2 KA;have X4:Hid (Below w3.heap.size w3 (w3.alloc (.cells #[.int .i64 k,.string nm,.string tx,.slice a3 n3 c3,.slice a4 n4 c4,.slice a5 n5 c5,.slice a6 n6 c6,.int .i64 p] 60))):=al Yj _;have P4:=qaa (Yh w3 (.cells #[.int .i64 k,.string nm,.string tx,.slice a3 n3 c3,.slice a4 n4 c4,.slice a5 n5 c5,.slice a6 n6 c6,.int .i64 p] 60));go_upto_region 5 with fail
  obtain⟨P,hP⟩:∃P,P=w3.heap.size:=⟨_,rfl⟩;rw[←hP] at P4;rw[←hP];have D4:=qaa (D3.out.below X4.out);have Q4:=qaa ((X4.out.block Q (Yd Q3.out)).trans Q3.out);have KC:=qaa (KB.out.trans (Kept.of_below X4.out));clear hP Q3 KB;generalize hw4:w3.alloc (.cells #[.int .i64 k,.string nm,.string tx,.slice a3 n3 c3,.slice a4 n4 c4,.slice a5 n5 c5,.slice a6 n6 c6,.int .i64 p] 60)=w4 at *;have LW:=qaa X4.out;clear hw4 X4;have X5:Hid (Below w4.heap.size w4 (w4.alloc (.cells #[.int .i64 k,.string nm,.string tx,.slice a3 n3 c3,.slice a4 n4 c4,.slice a5 n5 c5,.slice a6 n6 c6,.int .i64 p] 60))):=al Yj _;have G5:=qaa (Yh w4 (.cells #[.int .i64 k,.string nm,.string tx,.slice a3 n3 c3,.slice a4 n4 c4,.slice a5 n5 c5,.slice a6 n6 c6,.int .i64 p] 60));obtain⟨q0,q1,q2,q3,q4,q5,q6,q7⟩:=ld8 P4.out;obtain⟨G,hG⟩:∃G,G=w4.heap.size:=⟨_,rfl⟩;have D5:=qaa (D4.out.below X5.out);have Q5:=qaa ((X5.out.block Q (Yd Q4.out)).trans Q4.out);have KD:=qaa (KC.out.trans (Kept.of_below X5.out));have NL:=qaa hG;have HO:=qaa (qgd (k:=4) (nm:=⟨#[]⟩) (tx:=⟨#[]⟩) (a3:=none) (a4:=none) (a5:=none) (a6:=some ⟨w4.heap.size,0,none⟩) (n3:=0) (c3:=0) (n4:=0) (c4:=0) (n5:=0) (c5:=0) (n6:=1) (c6:=1) (p:=z.p) (d:=wrap64 (d+1)) D5.out (fun he=>by
   exact(BX.out he).1))
  clear hG;go_wp2_with (fail);refine HO.out.mono ?_;rintro e' w6 ⟨rfl,e6,qq6,d6,k6,GG,EF,h63⟩;have D6:=qaa d6;have Lu:=qaa GG;have Lx:=qaa EF;have L9:=qaa h63;have Q6:=qaa ((k6.block Q (Yd Q5.out) nQ).trans Q5.out);have KE:=qaa (KD.out.trans k6);have K6:=qaa k6;clear d6 k6 GG EF h63 HO D5 Q5 KD q0 q1 q2 q3 q4 q5 q6 q7;obtain⟨⟨_,p0⟩,f0,⟨_,p1⟩,f1,⟨_,p2⟩,f2,⟨_,p3⟩,f3,⟨_,p4⟩,f4,⟨_,p5⟩,f5,⟨_,p6⟩,f6,⟨_,p7⟩,f7,Be,Bf⟩:=st8 Q6.out (.int .i64 4) (.string ⟨#[]⟩) (.string ⟨#[]⟩) (.slice none 0 0) (.slice none 0 0) (.slice none 0 0) (.slice (some ⟨w4.heap.size,0,none⟩) 1 1) (.int .i64 z.p);have Bg:=qaa Be;have KQ:=qaa Bf;clear Be Bf;go_wp2;clear p0 f0 p1 f1 p2 f2 p3 f3 p4 f4 p5 f5 p6 f6 p7 f7;generalize ((((((((w6.setCell ⟨Q,0,none⟩ (.int .i64 4)).setCell ⟨Q,1,none⟩ (.string ⟨#[]⟩)).setCell ⟨Q,2,none⟩ (.string ⟨#[]⟩)).setCell ⟨Q,3,none⟩ (.slice none 0 0)).setCell ⟨Q,4,none⟩ (.slice none 0 0)).setCell ⟨Q,5,none⟩ (.slice none 0 0)).setCell ⟨Q,6,none⟩ (.slice (some ⟨w4.heap.size,0,none⟩) 1 1)).setCell ⟨Q,7,none⟩ (.int .i64 z.p))=w9 at *;obtain⟨q0,q1,q2,q3,q4,q5,q6,q7⟩:=ld8 Bg.out;refine Yg (by simp[results,Tryz.results124,go_sem,q0,q1,q2,q3,q4,q5,q6,q7];try rfl) rfl ?_;have hrq:¬rp=Q:=by have:=Bc.out;omega
  have Bv:¬g=Q:=by have:=Bc.out;omega
  refine⟨_,_,_,_,_,rfl,⟨_,_,_,_,_,_,_,_,_,_,_,_,_,_,_,_,rfl⟩,D6.out.kept KQ.out hrq Bv,KE.out.fin KQ.out (by have:=Bi.out;omega),qdw.ofX Dx.out ?_⟩;by_cases h1:e3=0
  ·obtain⟨_,hXX,hgd,h4,vs,bs,h3,h5,h6⟩:=BX.out h1
   subst h1;have hw:wrap64 (d+1)=d+1:=by unfold wrap64;omega
   have hdp:dpt (.mk 4 [] [] [] [] [] [cc] z.p)=dpt cc+1:=by rw[qck];show max (dpt cc) 0+1=_;omega
   by_cases hd:d+1≤16
   ·obtain⟨e1,e2⟩:=Lx.out rfl (by rw[hw];omega)
    have hvs:vs=[.int .i64 k,.string nm,.string tx,.slice a3 n3 c3,.slice a4 n4 c4,.slice a5 n5 c5,.slice a6 n6 c6,.int .i64 p]:=by
     have:=congrArg (fun v=>match v with|Value.agg a=>a.toList|_=>[]) h3;simpa using this.symm
    subst hvs;obtain⟨g1,g2⟩:=qaj.one (kind:=4) (p:=z.p) (h5.below LW.out) h6 Yi X5.out Yi (by have:=HW2.out;have:=LW.out.size;omega) G5.out;refine .inl ⟨e1,e2,_,_,_,rfl,?_,(g1.frame K6.out (fun j hj=>?_) Yi).frame KQ.out (fun j hj=>?_) ?_,g2,?_⟩
    ·rw[hw,h4,hdp];omega
    ·have:=Bc.out
     have:=HW2.out;rw[hj];omega
    ·have:=HW2.out
     rw[hj];omega
    ·have:=HW2.out
     have:=Bi.out;omega
    ·rw[hXX]
     unfold qbl;rw[if_neg (by rw[hdp];omega)]
   ·obtain⟨e1,e2⟩:=L9.out rfl (by rw[hw];omega)
    refine .inr ⟨by rw[e1];decide,?_⟩;rw[hXX,e1,e2];unfold qbl;rw[if_pos (by rw[hdp];omega)];rfl
  ·obtain⟨e1,e2⟩:=Lu.out h1
   refine .inr ⟨by rw[e1];exact h1,?_⟩;rw[HJ2.out h1,e1,e2]
 |false=>
  obtain⟨h1,h2,h3⟩:=H2.out rfl;subst h1;have L1:Hid (Lv X (fun l=>if isT Ts 7 [40] l=true then(fun l=>(qaf Ts f 0 l).bind fun c j=>(qak Ts 7 [41] j).bind fun _ l=>.ok c l) (l+1) else(fun l=>qdz Ts f l) l) i2 e2 qq2):=h3;have HE2:=qaa h2;clear H1 H2 h2 h3;go_upto_region 6 with fail
  have Dm:=qaa (qcv (y1:=fun l=>(qaf Ts f 0 l).bind fun c j=>(qak Ts 7 [41] j).bind fun _ l=>.ok c l) (y2:=fun l=>qdz Ts f l) (fun l hl=>qa4 Bp.out rfl hl) D2.out L1.out);go_upto_region 7 with(go_at_call 85;refine Dm.out.mono ?_;rintro e' w3 ⟨b,i3,e3,qq3,rfl,d3,h1,h2,k3⟩;have D3:=qaa d3;have H1:=qaa h1;have H2:=qaa h2;have K3:=qaa k3;clear d3 h1 h2 k3)
  have Q3:=qaa ((K3.out.block Q (Yd Q2.out) nQ).trans Q2.out);have KB:=qaa (KA.out.trans K3.out);clear Dm D2 Q2 KA K3 L1;cases b with
  |true=>
   obtain⟨he,h1,h2,h3,h4,h5⟩:=H1.out rfl;subst h1;subst h2;subst h3;have Ei:Hid (X=(qaf Ts f 0 (i2+1)).bind fun c j=>(qak Ts 7 [41] j).bind fun _ l=>.ok c l):=h5;have JG:Hid (i2+1<Ts.length):=D3.out.lt;have JN:=qaa (HE2.out he);clear H1 H2 he h4 h5;have HI:=qaa (HR.out JN.out (i2+1) w3 (by have:=JG.out;omega) (by have:=HF.out JN.out;have:=JG.out;omega) D3.out);go_upto_region 8 with fail
   go_wp2_with (fail);refine HI.out.mono ?_;rintro e' w4 ⟨v,d,i4,e4,qq4,rfl,⟨k,nm,tx,a3,n3,c3,a4,n4,c4,a5,n5,c5,a6,n6,c6,p,rfl⟩,d4,k4,h4⟩;have D4:=qaa d4;have HJ:Hid (∃cc,Lv X (fun j=>(qak Ts 7 [41] j).bind fun _ l=>.ok cc l) i4 e4 qq4∧(e4=0→∃vs bs,(.agg #[.int .i64 k,.string nm,.string tx,.slice a3 n3 c3,.slice a4 n4 c4,.slice a5 n5 c5,.slice a6 n6 c6,.int .i64 p]:Value)=.agg vs.toArray∧d=(dpt cc:Nat)∧qaj w4 w3.heap.size cc vs bs∧bs.Nodup)):=by
    rcases h4 with⟨_,h1,h2,c,vs,bs,h3,h5,h6,h7,h8⟩|⟨h1,h2,_⟩
    ·exact⟨c,.inl ⟨h1,h2,by rw[Ei.out,h8];rfl⟩,fun _=>⟨vs,bs,h3,h5,h6,h7⟩⟩
    ·exact⟨.mk 0 [] [] [] [] [] [] 0,.inr ⟨h1,by rw[Ei.out,h2 rfl];rfl⟩,fun h=>absurd h h1⟩
   obtain⟨cc,hj1,hj2⟩:=HJ.out;have L5:=qaa hj1;have Pd:=qaa hj2;clear HJ hj1 hj2;have Q4:=qaa ((k4.block Q (Yd Q3.out) nQ).trans Q3.out);have KC:=qaa (KB.out.trans k4);have HW3:Hid (Q<w3.heap.size):=Yd Q3.out;clear d4 h4 k4 HI D3 Q3 KB;have X5:Hid (Below w4.heap.size w4 (w4.alloc (.cells #[.int .i64 k,.string nm,.string tx,.slice a3 n3 c3,.slice a4 n4 c4,.slice a5 n5 c5,.slice a6 n6 c6,.int .i64 p] 60))):=al Yj _;have P5:=qaa (Yh w4 (.cells #[.int .i64 k,.string nm,.string tx,.slice a3 n3 c3,.slice a4 n4 c4,.slice a5 n5 c5,.slice a6 n6 c6,.int .i64 p] 60));go_upto_region 9 with fail
   obtain⟨P,hP⟩:∃P,P=w4.heap.size:=⟨_,rfl⟩;rw[←hP] at P5;rw[←hP];have Bq:Hid (Q<P):=by have:=Yd Q4.out;unfold Hid;omega
   have D5:=qaa (D4.out.below X5.out);have Q5:=qaa ((X5.out.block Q (Yd Q4.out)).trans Q4.out);have KD:=qaa (KC.out.trans (Kept.of_below X5.out));have HJ2:Hid (e4=0→∃vs bs,(.agg #[.int .i64 k,.string nm,.string tx,.slice a3 n3 c3,.slice a4 n4 c4,.slice a5 n5 c5,.slice a6 n6 c6,.int .i64 p]:Value)=.agg vs.toArray∧d=(dpt cc:Nat)∧qaj (w4.alloc (.cells #[.int .i64 k,.string nm,.string tx,.slice a3 n3 c3,.slice a4 n4 c4,.slice a5 n5 c5,.slice a6 n6 c6,.int .i64 p] 60)) w3.heap.size cc vs bs∧bs.Nodup):=fun he=>by
    obtain⟨vs,bs,h1,h2,h3,h4⟩:=Pd.out he;exact⟨vs,bs,h1,h2,h3.below X5.out,h4⟩
   clear hP Q4 KC X5 Pd Ei D4;generalize w4.alloc (.cells #[.int .i64 k,.string nm,.string tx,.slice a3 n3 c3,.slice a4 n4 c4,.slice a5 n5 c5,.slice a6 n6 c6,.int .i64 p] 60)=w5 at *;have nP:P≠rp:=by have:=Bc.out;have:=Bq.out;omega
   have HT:=qaa (qa8 (fun l hl=>qa4 Bp.out rfl hl) D5.out L5.out);go_upto_region 10 with(go_at_call 57;refine HT.out.mono ?_;rintro e' w6 ⟨rfl,i6,e6,qq6,d1,l1,h1,k1⟩;have D6:=qaa d1;have L6:=qaa l1;have H6:=qaa h1;have K6:=qaa k1;clear d1 l1 h1 k1)
   have P6:=qaa ((K6.out.block P (Yd P5.out) nP).trans P5.out);have Q6:=qaa ((K6.out.block Q (Yd Q5.out) nQ).trans Q5.out);have KE:=qaa (KD.out.trans K6.out);clear HT P5 Q5 KD D5 L5;obtain⟨q0,q1,q2,q3,q4,q5,q6,q7⟩:=ld8 P6.out;obtain⟨⟨_,p0⟩,f0,⟨_,p1⟩,f1,⟨_,p2⟩,f2,⟨_,p3⟩,f3,⟨_,p4⟩,f4,⟨_,p5⟩,f5,⟨_,p6⟩,f6,⟨_,p7⟩,f7,Be,Bf⟩:=st8 Q6.out (.int .i64 k) (.string nm) (.string tx) (.slice a3 n3 c3) (.slice a4 n4 c4) (.slice a5 n5 c5) (.slice a6 n6 c6) (.int .i64 p);have Bg:=qaa Be;have KQ:=qaa Bf;clear Be Bf;go_wp2;clear q0 q1 q2 q3 q4 q5 q6 q7;clear p0 f0 p1 f1 p2 f2 p3 f3 p4 f4 p5 f5 p6 f6 p7 f7;generalize ((((((((w6.setCell ⟨Q,0,none⟩ (.int .i64 k)).setCell ⟨Q,1,none⟩ (.string nm)).setCell ⟨Q,2,none⟩ (.string tx)).setCell ⟨Q,3,none⟩ (.slice a3 n3 c3)).setCell ⟨Q,4,none⟩ (.slice a4 n4 c4)).setCell ⟨Q,5,none⟩ (.slice a5 n5 c5)).setCell ⟨Q,6,none⟩ (.slice a6 n6 c6)).setCell ⟨Q,7,none⟩ (.int .i64 p))=w9 at *;obtain⟨q0,q1,q2,q3,q4,q5,q6,q7⟩:=ld8 Bg.out;refine Yg (by simp[results,Tryz.results124,go_sem,q0,q1,q2,q3,q4,q5,q6,q7];try rfl) rfl ?_;have hrq:¬rp=Q:=by have:=Bc.out;omega
   have Bv:¬g=Q:=by have:=Bc.out;omega
   refine⟨_,_,_,_,_,rfl,⟨_,_,_,_,_,_,_,_,_,_,_,_,_,_,_,_,rfl⟩,D6.out.kept KQ.out hrq Bv,KE.out.fin KQ.out (by have:=Bi.out;omega),qdw.ofX Dx.out ?_⟩;rcases L6.out with⟨h1,h2,h3⟩|⟨h1,h2⟩
   ·obtain⟨vs,bs,g1,g2,g3,g4⟩:=HJ2.out (H6.out h1).1
    refine .inl ⟨h1,h2,cc,vs,bs,g1,g2,(g3.frame K6.out (fun j hj=>?_) Yi).frame KQ.out (fun j hj=>?_) ?_,g4,h3⟩
    ·have:=Bc.out
     have:=HW3.out;rw[hj];omega
    ·have:=HW3.out
     rw[hj];omega
    ·have:=HW3.out
     have:=Bi.out;omega
   ·exact .inr ⟨h1,h2⟩
  |false=>
   obtain⟨h1,h2,h3⟩:=H2.out rfl;subst h1;have L3:=qaa h3;have Rw:=qaa h2;clear H1 H2 h2 h3;go_upto_region 11 with fail
   have HI:=qaa (ql5 (f:=f) Bp.out (fun he=>by have:=HF.out (HE2.out (Rw.out he));have:=DU.out;omega) (fun he=>by
    rcases L3.out with⟨_,h,_⟩|⟨h,_⟩
    ·exact h
    ·exact absurd he h) D3.out)
   go_wp2_with (fail);refine HI.out.mono ?_;rintro e' w4 ⟨v,i4,e4,qq4,rfl,⟨k,nm,tx,a3,n3,c3,a4,n4,c4,a5,n5,c5,a6,n6,c6,p,rfl⟩,d4,k4,h4⟩;have D4:=qaa d4;have HJ:Hid ((e4=0→qq4=0∧∃c vs bs,(.agg #[.int .i64 k,.string nm,.string tx,.slice a3 n3 c3,.slice a4 n4 c4,.slice a5 n5 c5,.slice a6 n6 c6,.int .i64 p]:Value)=.agg vs.toArray∧dpt c=1∧qaj w4 w3.heap.size c vs bs∧bs.Nodup∧X=.ok c i4)∧(e4≠0→X=.bad e4 qq4)):=by
    rcases h4 with⟨h0,h1,h2,c,vs,bs,h3,h5,h6,h7⟩|⟨h1,h2,h3⟩
    ·refine⟨fun _=>⟨h2,c,vs,bs,h3,qkb (ql4 h7),h5,h6,?_⟩,fun h=>absurd h1 h⟩
     rcases L3.out with⟨_,_,h⟩|⟨h,_⟩
     ·rw[h];exact h7
     ·exact absurd h0 h
    ·refine⟨fun h=>absurd h h1,fun _=>?_⟩
     rcases L3.out with⟨h4,_,h⟩|⟨h4,h⟩
     ·rw[h];exact h2 h4
     ·obtain⟨g1,g2⟩:=h3 h4
      rw[h,g1,g2]
   have BX:=qaa HJ.out.1;have HJ2:=qaa HJ.out.2;clear HJ;have Q4:=qaa ((k4.block Q (Yd Q3.out) nQ).trans Q3.out);have KC:=qaa (KB.out.trans k4);have HW3:Hid (Q<w3.heap.size):=Yd Q3.out;clear d4 h4 k4 HI D3 Q3 KB L3;obtain⟨⟨_,p0⟩,f0,⟨_,p1⟩,f1,⟨_,p2⟩,f2,⟨_,p3⟩,f3,⟨_,p4⟩,f4,⟨_,p5⟩,f5,⟨_,p6⟩,f6,⟨_,p7⟩,f7,Be,Bf⟩:=st8 Q4.out (.int .i64 k) (.string nm) (.string tx) (.slice a3 n3 c3) (.slice a4 n4 c4) (.slice a5 n5 c5) (.slice a6 n6 c6) (.int .i64 p);have Bg:=qaa Be;have KQ:=qaa Bf;clear Be Bf;go_wp2;clear p0 f0 p1 f1 p2 f2 p3 f3 p4 f4 p5 f5 p6 f6 p7 f7;generalize ((((((((w4.setCell ⟨Q,0,none⟩ (.int .i64 k)).setCell ⟨Q,1,none⟩ (.string nm)).setCell ⟨Q,2,none⟩ (.string tx)).setCell ⟨Q,3,none⟩ (.slice a3 n3 c3)).setCell ⟨Q,4,none⟩ (.slice a4 n4 c4)).setCell ⟨Q,5,none⟩ (.slice a5 n5 c5)).setCell ⟨Q,6,none⟩ (.slice a6 n6 c6)).setCell ⟨Q,7,none⟩ (.int .i64 p))=w9 at *;obtain⟨q0,q1,q2,q3,q4,q5,q6,q7⟩:=ld8 Bg.out;refine Yg (by simp[results,Tryz.results124,go_sem,q0,q1,q2,q3,q4,q5,q6,q7];try rfl) rfl ?_;have hrq:¬rp=Q:=by have:=Bc.out;omega
   have Bv:¬g=Q:=by have:=Bc.out;omega
   refine⟨_,_,_,_,_,rfl,⟨_,_,_,_,_,_,_,_,_,_,_,_,_,_,_,_,rfl⟩,D4.out.kept KQ.out hrq Bv,KC.out.fin KQ.out (by have:=Bi.out;omega),qdw.ofX Dx.out ?_⟩;by_cases h0:e4=0
   ·obtain⟨h2,c,vs,bs,h3,h4,h5,h6,h7⟩:=BX.out h0
    refine .inl ⟨h0,h2,c,vs,bs,h3,?_,h5.frame KQ.out (fun j hj=>?_) ?_,h6,h7⟩
    ·rw[h4];rfl
    ·have:=HW3.out
     rw[hj];exact this
    ·have:=HW3.out
     have:=Bi.out;omega
   ·exact .inr ⟨h0,HJ2.out h0⟩
theorem qel {Ts:List Tk} {l:Nat} (h:qe3 Ts l=false):∀(f pl:Nat),pl≤3→4-pl≤f→qaf Ts f pl l=.bad 90 (tok Ts l).p:=by
 unfold qe3 at h;simp only[Bool.or_eq_false_iff,bne_eq_false_iff_eq,beq_eq_false_iff_ne,ne_eq] at h;obtain⟨⟨⟨h1,h2⟩,h3⟩,h4⟩:=h;have key3:∀f,qaf Ts (f+1) 3 l=.bad 90 (tok Ts l).p:=fun f=>by
  rw[qc7,if_neg (by rw[h2];decide),if_neg h1,if_pos h4]
 have key2:∀f,qaf Ts (f+2) 2 l=.bad 90 (tok Ts l).p:=fun f=>by
  rw[qdg,if_neg (by rw[h3];decide),key3]
 have key1:∀f,qaf Ts (f+3) 1 l=.bad 90 (tok Ts l).p:=fun f=>by
  rw[qd9,key2];rfl
 have key0:∀f,qaf Ts (f+4) 0 l=.bad 90 (tok Ts l).p:=fun f=>by
  rw[qdu,key1];rfl
 intro f pl hp hf;rcases (by omega:pl=0∨pl=1∨pl=2∨pl=3) with rfl|rfl|rfl|rfl
 ·obtain⟨n,rfl⟩:∃n,f=n+4:=⟨f-4,by omega⟩
  exact key0 n
 ·obtain⟨n,rfl⟩:∃n,f=n+3:=⟨f-3,by omega⟩
  exact key1 n
 ·obtain⟨n,rfl⟩:∃n,f=n+2:=⟨f-2,by omega⟩
  exact key2 n
 ·obtain⟨n,rfl⟩:∃n,f=n+1:=⟨f-1,by omega⟩
  exact key3 n
theorem qdw.wrap {base rp g cap Q:Nat} {Ts:List Tk} {w W w3 w9:World} {e q:Int} {x:PR CT} {v:Value} {d:Int} {i':Nat} {e1 q1:Int} (hd:DpA w3 base rp g cap Ts i' e1 q1) (hj:Jk v) (Rx:Kept (fun k=>k=rp) w w3) (H:(e=0∧e1=0∧q1=0∧∃c vs bs,v=.agg vs.toArray∧d=(dpt c:Nat)∧qaj w3 W.heap.size c vs bs∧bs.Nodup∧x=.ok c i')∨(e1≠0∧(e=0→x=.bad e1 q1)∧(e≠0→e1=e∧q1=q))) (hq:Kept (fun k=>k=Q) w3 w9) (hQ:w.heap.size≤Q) (hQW:Q<W.heap.size) (h1:rp≠Q) (h2:g≠Q):qdw base rp g cap Ts w e q x (.returned (.tuple #[v,.int .i64 d])) w9:=by
 refine⟨v,d,i',e1,q1,rfl,hj,hd.kept hq h1 h2,Rx.fin hq hQ,?_⟩;rcases H with⟨g0,g1,g2,c,vs,bs,g3,g4,g5,g6,g7⟩|H
 ·exact .inl ⟨g0,g1,g2,c,vs,bs,g3,g4,g5.frame hq (fun k hk=>by rw[hk];exact hQW) (by omega),g6,g7⟩
 ·exact .inr H
theorem qky {w:World} {base rp g cap:Nat} {Ts:List Tk} {i:Nat} {e q:Int} {x:PR CT} (HC:∀V:World,DpA V base rp g cap Ts i e q→Calls Tryz.prog 58 #[.pointer (some ⟨rp,0,none⟩),.string ⟨#[97,110,100]⟩] V (qdw base rp g cap Ts V e q x)) (h:DpA w base rp g cap Ts i e q):
 Calls Tryz.prog 86 #[.pointer (some ⟨rp,0,none⟩),.string ⟨#[111,114]⟩] w (qdw base rp g cap Ts w e q x):=by
 obtain⟨Q,hQ⟩:∃Q,Q=w.heap.size:=⟨_,rfl⟩;obtain⟨W,hW⟩:∃W,W=w.alloc (.cells #[.int .i64 0,.string ⟨#[]⟩,.string ⟨#[]⟩,.slice none 0 0,.slice none 0 0,.slice none 0 0,.slice none 0 0,.int .i64 0] 60):=⟨_,rfl⟩;have X0:=qaa (show Below w.heap.size w W by rw[hW];exact al Yj _);have Q0:=qaa (show W.heap[Q]? =some (.cells #[.int .i64 0,.string ⟨#[]⟩,.string ⟨#[]⟩,.slice none 0 0,.slice none 0 0,.slice none 0 0,.slice none 0 0,.int .i64 0] 60 (0,0)) by rw[hW,hQ];exact Yh w _);have HI:=qaa (HC W (h.below X0.out));have Bi:=qaa hQ;have Bc:Hid (rp<Q∧g<Q):=by have:=h.gl;unfold Hid;omega
 clear HC h;go_enter Tryz.func86,Tryz.ntmps86;go_upto_region 1 with fail
 rw[←hQ,←hW];clear hQ hW;have nQ:Q≠rp:=by have:=Bc.out;omega
 go_upto_region 2 with fail
 go_wp2_with (fail);refine HI.out.mono ?_;rintro e' w3 ⟨v,d,i3,e3,qq3,rfl,hjk,d3,k3,h3⟩;have LX:=qaa hjk;obtain⟨k,nm,tx,a3,n3,c3,a4,n4,c4,a5,n5,c5,a6,n6,c6,p,rfl⟩:=hjk;have D3:=qaa d3;have Q3:=qaa ((k3.block Q (Yd Q0.out) nQ).trans Q0.out);have KB:=qaa ((Kept.of_below (F:=fun k=>k=rp) X0.out).trans k3);have JR:Hid (∀w9,Kept (fun k=>k=Q) w3 w9→qdw base rp g cap Ts w e q x (.returned (.tuple #[.agg #[.int .i64 k,.string nm,.string tx,.slice a3 n3 c3,.slice a4 n4 c4,.slice a5 n5 c5,.slice a6 n6 c6,.int .i64 p],.int .i64 d])) w9):=fun w9 hk=>qdw.wrap (W:=W) D3.out LX.out KB.out h3 hk (by have:=Bi.out;omega) (Yd Q0.out) (by have:=Bc.out;omega) (by have:=Bc.out;omega)
 clear d3 k3 h3 HI LX;obtain⟨⟨_,p0⟩,f0,⟨_,p1⟩,f1,⟨_,p2⟩,f2,⟨_,p3⟩,f3,⟨_,p4⟩,f4,⟨_,p5⟩,f5,⟨_,p6⟩,f6,⟨_,p7⟩,f7,Be,Bf⟩:=st8 Q3.out (.int .i64 k) (.string nm) (.string tx) (.slice a3 n3 c3) (.slice a4 n4 c4) (.slice a5 n5 c5) (.slice a6 n6 c6) (.int .i64 p);have Bg:=qaa Be;have KQ:=qaa Bf;clear Be Bf;go_wp2;clear p0 f0 p1 f1 p2 f2 p3 f3 p4 f4 p5 f5 p6 f6 p7 f7;generalize ((((((((w3.setCell ⟨Q,0,none⟩ (.int .i64 k)).setCell ⟨Q,1,none⟩ (.string nm)).setCell ⟨Q,2,none⟩ (.string tx)).setCell ⟨Q,3,none⟩ (.slice a3 n3 c3)).setCell ⟨Q,4,none⟩ (.slice a4 n4 c4)).setCell ⟨Q,5,none⟩ (.slice a5 n5 c5)).setCell ⟨Q,6,none⟩ (.slice a6 n6 c6)).setCell ⟨Q,7,none⟩ (.int .i64 p))=w9 at *;obtain⟨q0,q1,q2,q3,q4,q5,q6,q7⟩:=ld8 Bg.out;refine Yg (by simp[results,Tryz.results86,go_sem,q0,q1,q2,q3,q4,q5,q6,q7];try rfl) rfl ?_;exact JR.out w9 KQ.out
theorem qis {w:World} {base rp g cap:Nat} {Ts:List Tk} {i:Nat} {e q:Int} {x:PR CT} (HC:∀V:World,DpA V base rp g cap Ts i e q→Calls Tryz.prog 124 #[.pointer (some ⟨rp,0,none⟩)] V (qdw base rp g cap Ts V e q x)) (h:DpA w base rp g cap Ts i e q):
 Calls Tryz.prog 86 #[.pointer (some ⟨rp,0,none⟩),.string ⟨#[97,110,100]⟩] w (qdw base rp g cap Ts w e q x):=by
 obtain⟨Q,hQ⟩:∃Q,Q=w.heap.size:=⟨_,rfl⟩;obtain⟨W,hW⟩:∃W,W=w.alloc (.cells #[.int .i64 0,.string ⟨#[]⟩,.string ⟨#[]⟩,.slice none 0 0,.slice none 0 0,.slice none 0 0,.slice none 0 0,.int .i64 0] 60):=⟨_,rfl⟩;have X0:=qaa (show Below w.heap.size w W by rw[hW];exact al Yj _);have Q0:=qaa (show W.heap[Q]? =some (.cells #[.int .i64 0,.string ⟨#[]⟩,.string ⟨#[]⟩,.slice none 0 0,.slice none 0 0,.slice none 0 0,.slice none 0 0,.int .i64 0] 60 (0,0)) by rw[hW,hQ];exact Yh w _);have HI:=qaa (HC W (h.below X0.out));have Bi:=qaa hQ;have Bc:Hid (rp<Q∧g<Q):=by have:=h.gl;unfold Hid;omega
 clear HC h;go_enter Tryz.func86,Tryz.ntmps86;go_upto_region 1 with fail
 rw[←hQ,←hW];clear hQ hW;have nQ:Q≠rp:=by have:=Bc.out;omega
 go_upto_region 3 with fail
 go_wp2_with (fail);refine HI.out.mono ?_;rintro e' w3 ⟨v,d,i3,e3,qq3,rfl,hjk,d3,k3,h3⟩;have LX:=qaa hjk;obtain⟨k,nm,tx,a3,n3,c3,a4,n4,c4,a5,n5,c5,a6,n6,c6,p,rfl⟩:=hjk;have D3:=qaa d3;have Q3:=qaa ((k3.block Q (Yd Q0.out) nQ).trans Q0.out);have KB:=qaa ((Kept.of_below (F:=fun k=>k=rp) X0.out).trans k3);have JR:Hid (∀w9,Kept (fun k=>k=Q) w3 w9→qdw base rp g cap Ts w e q x (.returned (.tuple #[.agg #[.int .i64 k,.string nm,.string tx,.slice a3 n3 c3,.slice a4 n4 c4,.slice a5 n5 c5,.slice a6 n6 c6,.int .i64 p],.int .i64 d])) w9):=fun w9 hk=>qdw.wrap (W:=W) D3.out LX.out KB.out h3 hk (by have:=Bi.out;omega) (Yd Q0.out) (by have:=Bc.out;omega) (by have:=Bc.out;omega)
 clear d3 k3 h3 HI LX;obtain⟨⟨_,p0⟩,f0,⟨_,p1⟩,f1,⟨_,p2⟩,f2,⟨_,p3⟩,f3,⟨_,p4⟩,f4,⟨_,p5⟩,f5,⟨_,p6⟩,f6,⟨_,p7⟩,f7,Be,Bf⟩:=st8 Q3.out (.int .i64 k) (.string nm) (.string tx) (.slice a3 n3 c3) (.slice a4 n4 c4) (.slice a5 n5 c5) (.slice a6 n6 c6) (.int .i64 p);have Bg:=qaa Be;have KQ:=qaa Bf;clear Be Bf;go_wp2;clear p0 f0 p1 f1 p2 f2 p3 f3 p4 f4 p5 f5 p6 f6 p7 f7;generalize ((((((((w3.setCell ⟨Q,0,none⟩ (.int .i64 k)).setCell ⟨Q,1,none⟩ (.string nm)).setCell ⟨Q,2,none⟩ (.string tx)).setCell ⟨Q,3,none⟩ (.slice a3 n3 c3)).setCell ⟨Q,4,none⟩ (.slice a4 n4 c4)).setCell ⟨Q,5,none⟩ (.slice a5 n5 c5)).setCell ⟨Q,6,none⟩ (.slice a6 n6 c6)).setCell ⟨Q,7,none⟩ (.int .i64 p))=w9 at *;obtain⟨q0,q1,q2,q3,q4,q5,q6,q7⟩:=ld8 Bg.out;refine Yg (by simp[results,Tryz.results86,go_sem,q0,q1,q2,q3,q4,q5,q6,q7];try rfl) rfl ?_;exact JR.out w9 KQ.out
end Go.Proofs.YtlmhofjiobmodaaGreatDoor

