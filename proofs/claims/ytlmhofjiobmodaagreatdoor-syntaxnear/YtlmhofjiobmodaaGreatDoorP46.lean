/-
  The document's row by its contract: conditions with a word between. Condition: its parts are read so.
-/
import Derived.Test.YtlmhofjiobmodaaGreatDoorP45
set_option maxRecDepth 100000
set_option maxHeartbeats 16000000
namespace Go.Proofs.YtlmhofjiobmodaaGreatDoor
open Go.RowKit Go.Lib
theorem qkz {w:World} {base rp g cap:Nat} {Ts:List Tk} {f i:Nat} {e q:Int} (hg:GdT Ts) (hf:e=0→4*(Ts.length-i)+1+2≤f) (hq:e=0→q=0)
 (HP:∀(l:Nat) (V:World) (e q:Int),(e=0→q=0∧4*(Ts.length-l)+1+2≤f)→DpA V base rp g cap Ts l e q→Calls Tryz.prog 86 #[.pointer (some ⟨rp,0,none⟩),.string ⟨#[97,110,100]⟩] V (qdw base rp g cap Ts V e q (qaf Ts f 2 l)))
 (h:DpA w base rp g cap Ts i e q):Calls Tryz.prog 58 #[.pointer (some ⟨rp,0,none⟩),.string ⟨#[97,110,100]⟩] w (qdw base rp g cap Ts w e q ((qaf Ts f 2 i).bind fun c j=>if isT Ts 1 qeq j=true then rowP Ts (qaf Ts f 2) qeq 5 f [c] c.p j else .ok c j)):=by
 obtain⟨x,hx⟩:∃x,x=(qaf Ts f 2 i).bind fun c j=>if isT Ts 1 qeq j=true then rowP Ts (qaf Ts f 2) qeq 5 f [c] c.p j else .ok c j:=⟨_,rfl⟩
 rw[←hx];obtain⟨X,hX⟩:∃X,X=if e=0 then x else .bad e q:=⟨_,rfl⟩
 have Dx:=qaa hX;have Du:=qaa hx;have Bp:=qaa hg;have HF:=qaa hf;have BK:=qaa HP;obtain⟨Q,hQ⟩:∃Q,Q=w.heap.size:=⟨_,rfl⟩;obtain⟨W,hW⟩:∃W,W=w.alloc (.cells #[.int .i64 0,.string ⟨#[]⟩,.string ⟨#[]⟩,.slice none 0 0,.slice none 0 0,.slice none 0 0,.slice none 0 0,.int .i64 0] 60):=⟨_,rfl⟩;have X0:=qaa (show Below w.heap.size w W by rw[hW];exact al Yj _);have Q0:=qaa (show W.heap[Q]? =some (.cells #[.int .i64 0,.string ⟨#[]⟩,.string ⟨#[]⟩,.slice none 0 0,.slice none 0 0,.slice none 0 0,.slice none 0 0,.int .i64 0] 60 (0,0)) by rw[hW,hQ];exact Yh w _);have HI:=qaa (HP i W e q (fun he=>⟨hq he,hf he⟩) (h.below X0.out));have Bd:Hid (Q=w.heap.size∧W.heap.size=w.heap.size+1):=⟨hQ,by rw[hW];simp⟩;have Bi:=qaa hQ;have Bc:Hid (rp<Q∧g<Q):=by have:=h.gl;unfold Hid;omega
 have DU:=qaa h.lt;have Dy:=qaa h.few;clear hX hx hg hf hq HP h;go_enter Tryz.func58,Tryz.ntmps58;go_upto_region 1 with fail
 rw[←hQ,←hW];clear hQ hW;have nQ:Q≠rp:=by have:=Bc.out;omega
 go_wp2_with (fail);refine HI.out.mono ?_;rintro e' w1 ⟨v,d,i1,e1,qq1,rfl,⟨k,nm,tx,a3,n3,c3,a4,n4,c4,a5,n5,c5,a6,n6,c6,p,rfl⟩,d1,k1,h1⟩;have D1:=qaa d1;have HJ:Hid (∃c0,(e1=0→e1=0∧qq1=0∧e=0∧(i<i1∧i1≤Ts.length)∧Gd Ts.length c0∧p=c0.p∧d=(dpt c0:Nat)∧∃vs bs,X=(if isT Ts 1 qeq i1=true then rowP Ts (qaf Ts f 2) qeq 5 f [c0] p i1 else .ok c0 i1)∧(.agg #[.int .i64 k,.string nm,.string tx,.slice a3 n3 c3,.slice a4 n4 c4,.slice a5 n5 c5,.slice a6 n6 c6,.int .i64 p]:Value)=.agg vs.toArray∧qaj w1 W.heap.size c0 vs bs∧bs.Nodup)∧(e1≠0→X=.bad e1 qq1)):=by
  rcases h1 with⟨h0,h1,h2,c,vs,bs,h3,h4,h5,h6,h7⟩|⟨h1,h2,h3⟩
  ·have hp:p=c.p:=by
    obtain⟨x3,y3,x4,y4,x5,y5,x6,y6,rfl⟩:=h5.eight;have:=congrArg (fun v=>match v with|Value.agg a=>a.toList|_=>[]) h3;simp at this;exact this.2.2.2.2.2.2.2
   refine⟨c,fun _=>⟨h1,h2,h0,(qax f 2 i (by decide) (Nat.le_of_lt DU.out) (by have:=HF.out h0;omega)).lt h7,qay f 2 i c i1 (by decide) (Nat.le_of_lt DU.out) (by have:=HF.out h0;omega) h7,hp,h4,vs,bs,?_,h3,h5,h6⟩,fun h=>absurd h1 h⟩;rw[Dx.out,if_pos h0,Du.out,h7,hp];rfl
  ·refine⟨.mk 0 [] [] [] [] [] [] 0,fun h=>absurd h h1,fun _=>?_⟩
   by_cases h0:e=0
   ·rw[Dx.out,if_pos h0,Du.out,h2 h0]
    rfl
   ·obtain⟨g1,g2⟩:=h3 h0
    rw[Dx.out,if_neg h0,g1,g2]
 obtain⟨c0,hj1,hj2⟩:=HJ.out;have BX:=qaa hj1;have HJ2:=qaa hj2;have Q1:=qaa ((k1.block Q (Yd Q0.out) nQ).trans Q0.out);have KA:=qaa ((Kept.of_below (F:=fun k=>k=rp) X0.out).trans k1);have BL:Hid (W.heap.size≤w1.heap.size):=k1.size;clear HJ hj1 hj2 d1 k1 h1 HI Q0 X0;have X2:Hid (Below w1.heap.size w1 (w1.alloc (.cells #[.int .i64 k,.string nm,.string tx,.slice a3 n3 c3,.slice a4 n4 c4,.slice a5 n5 c5,.slice a6 n6 c6,.int .i64 p] 60))):=al Yj _;have P2:=qaa (Yh w1 (.cells #[.int .i64 k,.string nm,.string tx,.slice a3 n3 c3,.slice a4 n4 c4,.slice a5 n5 c5,.slice a6 n6 c6,.int .i64 p] 60));go_upto_region 2 with fail
 obtain⟨P6,hP6⟩:∃P6,P6=w1.heap.size:=⟨_,rfl⟩;rw[←hP6] at P2;rw[←hP6];have D2:=qaa (D1.out.below X2.out);have Q2:=qaa ((X2.out.block Q (Yd Q1.out)).trans Q1.out);have KB:=qaa (KA.out.trans (Kept.of_below X2.out));have G8:Hid (W.heap.size≤P6):=by have:=BL.out;unfold Hid;omega
 have Eh:=qaa X2.out;clear hP6 Q1 KA D1 X2;generalize w1.alloc (.cells #[.int .i64 k,.string nm,.string tx,.slice a3 n3 c3,.slice a4 n4 c4,.slice a5 n5 c5,.slice a6 n6 c6,.int .i64 p] 60)=w2 at *;obtain⟨q0,q1,q2,q3,q4,q5,q6,q7⟩:=ld8 P2.out;obtain⟨P8,hP8⟩:∃P8,P8=w2.heap.size+1:=⟨_,rfl⟩;obtain⟨w3,hw3⟩:∃w3,w3=((w2.alloc (.cells #[.int .i64 k,.string nm,.string tx,.slice a3 n3 c3,.slice a4 n4 c4,.slice a5 n5 c5,.slice a6 n6 c6,.int .i64 p] 60)).alloc (.cells #[.int .i64 5,.string ⟨#[]⟩,.string ⟨#[]⟩,.slice none 0 0,.slice none 0 0,.slice none 0 0,.slice (some ⟨w2.heap.size,0,none⟩) 1 1,.int .i64 p] 60)):=⟨_,rfl⟩;have X3:=qaa (show Below w2.heap.size w2 w3 by rw[hw3];exact al (al Yj _) _);have G3:=qaa (show w3.heap[w2.heap.size]? =some (.cells #[.int .i64 k,.string nm,.string tx,.slice a3 n3 c3,.slice a4 n4 c4,.slice a5 n5 c5,.slice a6 n6 c6,.int .i64 p] 60 (0,0)) by
  rw[hw3];exact(heap_alloc_old _ _ (by simp)).trans (Yh w2 _))
 have B3:=qaa (show w3.heap[P8]? =some (.cells #[.int .i64 5,.string ⟨#[]⟩,.string ⟨#[]⟩,.slice none 0 0,.slice none 0 0,.slice none 0 0,.slice (some ⟨w2.heap.size,0,none⟩) 1 1,.int .i64 p] 60 (0,0)) by
  rw[hw3,hP8,show w2.heap.size+1=(w2.alloc (.cells #[.int .i64 k,.string nm,.string tx,.slice a3 n3 c3,.slice a4 n4 c4,.slice a5 n5 c5,.slice a6 n6 c6,.int .i64 p] 60)).heap.size by simp];exact Yh _ _)
 go_upto_region 5 with fail
 rw[←hP8,←hw3];have JE:Hid (e1=0→∃cs bs,qcx w3 W.heap.size P8 5 p [c0] (.slice (some ⟨w2.heap.size,0,none⟩) 1 1) cs bs):=fun he=>by
  obtain⟨_,_,_,_,_,_,_,vs,bs,_,h3,h4,h5⟩:=BX.out he;have hvs:vs=[.int .i64 k,.string nm,.string tx,.slice a3 n3 c3,.slice a4 n4 c4,.slice a5 n5 c5,.slice a6 n6 c6,.int .i64 p]:=by
   have:=congrArg (fun v=>match v with|Value.agg a=>a.toList|_=>[]) h3;simpa using this.symm
  subst hvs;exact⟨_,_,qcx.one (h4.below Eh.out) h5 Yi X3.out Yi (by omega) (by have:=BL.out;have:=Eh.out.size;omega) G3.out B3.out⟩
 have D3:=qaa (D2.out.below X3.out);have Q3:=qaa ((X3.out.block Q (Yd Q2.out)).trans Q2.out);have P3:=qaa ((X3.out.block P6 (Yd P2.out)).trans P2.out);have KC:=qaa (KB.out.trans (Kept.of_below X3.out));have N9:Hid (W.heap.size≤P8∧P6<P8):=by have:=Yd P2.out;have:=G8.out;unfold Hid;omega
 have Gn:=qaa (bt Eh.out X3.out Yi);clear q0 q1 q2 q3 q4 q5 q6 q7 D2 Q2 P2 KB G3 hw3 X3 Eh hP8;have hsl:∃a6 n6 c6,(Value.slice (some ⟨w2.heap.size,0,none⟩) 1 1)=(.slice a6 n6 c6:Value):=⟨_,_,_,rfl⟩;obtain⟨v6,hv6⟩:∃v6,v6=(Value.slice (some ⟨w2.heap.size,0,none⟩) 1 1):=⟨_,rfl⟩;rw[←hv6] at hsl JE B3;have Ev:=qaa hsl;clear hv6 hsl;have Ls:Hid (e1=0→2≤f):=fun he=>by have:=HF.out (BX.out he).2.2.1;omega
 obtain⟨f0,hf0⟩:∃f0,f0=f-1:=⟨_,rfl⟩;have Gp:Hid (e1=0→f=f0+1):=fun he=>by have:=Ls.out he;omega
 clear hf0;have L3:Hid (Lv X (fun l=>if isT Ts 1 qeq l=true then(qhs Ts f 2 qeq 5 ([c0]) p f0) (l+1) else(fun l=>.ok c0 l) l) i1 e1 qq1):=by
  by_cases h0:e1=0
  ·obtain⟨_,g2,_,_,_,_,_,vs,bs,g8,_⟩:=BX.out h0
   refine .inl ⟨h0,g2,?_⟩;rw[g8];dsimp only;by_cases ht:isT Ts 1 qeq i1=true
   ·rw[if_pos ht,if_pos ht,Gp.out h0]
    show(if isT Ts 1 qeq i1=true then _ else _)=_;rw[if_pos ht,←Gp.out h0];rfl
   ·rw[if_neg ht,if_neg ht]
  ·exact .inr ⟨h0,HJ2.out h0⟩
 have nP6:P6≠rp:=by have:=Bc.out;have:=G8.out;have:=Bd.out;omega
 have nP8:P8≠rp:=by have:=Bc.out;have:=N9.out;have:=Bd.out;omega
 have Dm:=qaa (qcv (y1:=(qhs Ts f 2 qeq 5 ([c0]) p f0)) (y2:=fun l=>.ok c0 l) (fun l hl=>qbo Bp.out (by decide) hl) D3.out L3.out);have hwn:(⟨qeq.toArray⟩:ByteArray)=⟨#[97,110,100]⟩:=rfl;rw[hwn] at Dm;go_upto_region 6 with(go_at_call 85;refine Dm.out.mono ?_;rintro e' w4 ⟨b,i4,e4,qq4,rfl,d4,Je,Jf,k4⟩;have D4:=qaa d4;have Gx:=qaa Je;have Gy:=qaa Jf;have K4:=qaa k4;clear d4 Je Jf k4)
 have NA:=qaa hwn;clear hwn;have Q4:=qaa ((K4.out.block Q (Yd Q3.out) nQ).trans Q3.out);have P4:=qaa ((K4.out.block P6 (Yd P3.out) nP6).trans P3.out);have B4:=qaa ((K4.out.block P8 (Yd B3.out) nP8).trans B3.out);have KD:=qaa (KC.out.trans K4.out);have hlo:∀k,k=rp→k<W.heap.size:=by have:=Bc.out;have:=Bd.out;intro k hk;omega
 have Eu:Hid (e1=0→∃cs bs,qcx w4 W.heap.size P8 5 p [c0] v6 cs bs):=fun he=>by
  obtain⟨cs,bs,h⟩:=JE.out he;exact⟨cs,bs,h.frame K4.out hlo⟩
 have KT:Hid (Kept (fun k=>k=rp) w1 w4):=(Kept.of_below Gn.out).trans K4.out;clear Dm L3 D3 Q3 P3 B3 KC JE K4 Gn;cases b with
 |false=>
  obtain⟨h1,h2,h3⟩:=Gy.out rfl;subst h1;have Dh:Hid (e4=0→X=.ok c0 i4):=fun he=>by
   rcases h3 with⟨_,_,h⟩|⟨h,_⟩
   ·exact h
   ·exact absurd he h
  have NB:Hid (e4≠0→X=.bad e4 qq4):=fun he=>by
   rcases h3 with⟨h,_⟩|⟨_,h⟩
   ·exact absurd h he
   ·exact h
  have NC:Hid (e4=0→qq4=0):=fun he=>by
   rcases h3 with⟨_,h,_⟩|⟨h,_⟩
   ·exact h
   ·exact absurd he h
  have ND:=qaa h2;clear Gx Gy h2 h3;go_upto_region 7 with fail
  obtain⟨q0,q1,q2,q3,q4,q5,q6,q7⟩:=ld8 P4.out;obtain⟨⟨_,p0⟩,f0,⟨_,p1⟩,f1,⟨_,p2⟩,f2,⟨_,p3⟩,f3,⟨_,p4⟩,f4,⟨_,p5⟩,f5,⟨_,p6⟩,f6,⟨_,p7⟩,f7,Be,Bf⟩:=st8 Q4.out (.int .i64 k) (.string nm) (.string tx) (.slice a3 n3 c3) (.slice a4 n4 c4) (.slice a5 n5 c5) (.slice a6 n6 c6) (.int .i64 p);have Bg:=qaa Be;have KQ:=qaa Bf;clear Be Bf;go_wp2;clear q0 q1 q2 q3 q4 q5 q6 q7;clear p0 f0 p1 f1 p2 f2 p3 f3 p4 f4 p5 f5 p6 f6 p7 f7;generalize ((((((((w4.setCell ⟨Q,0,none⟩ (.int .i64 k)).setCell ⟨Q,1,none⟩ (.string nm)).setCell ⟨Q,2,none⟩ (.string tx)).setCell ⟨Q,3,none⟩ (.slice a3 n3 c3)).setCell ⟨Q,4,none⟩ (.slice a4 n4 c4)).setCell ⟨Q,5,none⟩ (.slice a5 n5 c5)).setCell ⟨Q,6,none⟩ (.slice a6 n6 c6)).setCell ⟨Q,7,none⟩ (.int .i64 p))=w9 at *;obtain⟨q0,q1,q2,q3,q4,q5,q6,q7⟩:=ld8 Bg.out;refine Yg (by simp[results,Tryz.results58,go_sem,q0,q1,q2,q3,q4,q5,q6,q7];try rfl) rfl ?_;have hrq:¬rp=Q:=by have:=Bc.out;omega
  have Bv:¬g=Q:=by have:=Bc.out;omega
  refine⟨_,_,_,_,_,rfl,⟨_,_,_,_,_,_,_,_,_,_,_,_,_,_,_,_,rfl⟩,D4.out.kept KQ.out hrq Bv,KD.out.fin KQ.out (by have:=Bi.out;omega),qdw.ofX Dx.out ?_⟩;by_cases h0:e4=0
  ·obtain⟨_,_,_,_,_,_,g7,vs,bs,_,g9,g10,g11⟩:=BX.out (ND.out h0)
   refine .inl ⟨h0,NC.out h0,c0,vs,bs,g9,g7,(g10.frame KT.out (fun j hj=>?_) Yi).frame KQ.out (fun j hj=>?_) ?_,g11,Dh.out h0⟩
   ·have:=Bc.out
    have:=Bd.out;rw[hj];omega
   ·have:=Bd.out
    rw[hj];omega
   ·have:=Bd.out
    omega
  ·exact .inr ⟨h0,NB.out h0⟩
 |true=>
  obtain⟨he1,h1,h2,h3,h4,h5⟩:=Gx.out rfl;subst h1;subst h2;subst h3;have Gq:=qaa (HF.out (BX.out he1).2.2.1);have Lt:=qaa (BX.out he1);have Gr:Hid (X=(qhs Ts f 2 qeq 5 ([c0]) p f0) (i1+1)∧Ts.length-(i1+1)<f0):=⟨h5,by
   have:=Gp.out he1;have:=Gq.out;have:=Lt.out.2.2.2.1;omega⟩
  have EM:=qaa he1;clear Gx Gy he1 h4 h5 HJ2 Ls KT P4 HF;go_upto_block 0 with fail
  go_wp2;go_loopg [7,9] (f+1) (fun gg s7 s9 wr=>∃(b:Bool) (d:Int) (ks:List CT) (v6:Value) (i':Nat) (e q:Int) (f':Nat),s9=.bool b∧s7=.int .i64 d∧Hid (wr.heap[P8]? =some (.cells #[.int .i64 5,.string ⟨#[]⟩,.string ⟨#[]⟩,.slice none 0 0,.slice none 0 0,.slice none 0 0,v6,.int .i64 p] 60 (0,0)))∧Hid (∃a6 n6 c6,v6=.slice a6 n6 c6)∧Hid (DpA wr base rp g cap Ts i' e q)∧Hid (Kept (fun k=>k=rp) w wr)∧Hid (wr.heap[Q]? =some (.cells #[.int .i64 0,.string ⟨#[]⟩,.string ⟨#[]⟩,.slice none 0 0,.slice none 0 0,.slice none 0 0,.slice none 0 0,.int .i64 0] 60 (0,0)))∧Hid (e=0→q=0∧d=(dpt.dptL ks:Nat)∧(∀k∈ks,Gd Ts.length k)∧ks.length≤i'∧i≤i'∧∃cs bs,qcx wr W.heap.size P8 5 p ks v6 cs bs)∧Hid (b=true→e=0∧X=(qhs Ts f 2 qeq 5 (ks) p f') i'∧Ts.length-i'<f')∧Hid (b=false→e=0→X=(fun l=>qbl (.mk 5 [] [] [] [] [] (ks) p) l) i')∧Hid (e≠0→X=.bad e q)∧f'<gg)
  case atStart=>
   refine⟨true,d,[c0],v6,i1+1,0,0,f0,rfl,rfl,B4,Ev,D4,KD,Q4,fun _=>?_,fun _=>⟨rfl,Gr.out⟩,fun h=>(by cases h),fun h=>absurd rfl h,by have:=Gp.out EM.out;omega⟩;obtain⟨_,_,_,g4,g5,_,g7,_⟩:=BX.out EM.out;refine⟨rfl,?_,fun k hk=>by rw[List.mem_singleton.1 hk];exact g5,by rw[List.length_singleton];omega,by omega,Eu.out EM.out⟩;rw[g7];show _=((max (dpt c0) 0:Nat):Int);rw[Nat.max_zero]
  case round=>
   clear B4 Ev D4 KD Q4 Gr Eu BX Gp EM Lt;obtain⟨b,d,ks,v6,i',e2,qq2,f',rfl,rfl,BR,Ev,DR,KR,QR,AL,Ef,Eg,EO,hg⟩:=hrel;have HG:=qaa hg;clear hg;obtain⟨a6,n6,c6,hv6⟩:=Ev.out;subst hv6;cases b with
   |false=>
    have HO:=qaa (Eg.out rfl);clear Ef Eg Ev;go_upto_region 18 with fail
    obtain⟨q0,q1,q2,q3,q4,q5,q6,q7⟩:=ld8 BR.out;have HC:=qaa (qgd (k:=5) (nm:=⟨#[]⟩) (tx:=⟨#[]⟩) (a3:=none) (a4:=none) (a5:=none) (a6:=a6) (n3:=0) (c3:=0) (n4:=0) (c4:=0) (n5:=0) (c5:=0) (n6:=n6) (c6:=c6) (p:=p) (d:=wrap64 (d+1)) DR.out (fun he=>(AL.out he).1));go_wp2_with (fail);refine HC.out.mono ?_;rintro e' w6 ⟨rfl,e6,qq6,d6,k6,GG,EF,h63⟩;have D6:=qaa d6;have Lu:=qaa GG;have Lx:=qaa EF;have L9:=qaa h63;have Q6:=qaa ((k6.block Q (Yd QR.out) nQ).trans QR.out);have KE:=qaa (KR.out.trans k6);have K6:=qaa k6;clear d6 k6 GG EF h63 HC q0 q1 q2 q3 q4 q5 q6 q7;obtain⟨⟨_,p0⟩,f0,⟨_,p1⟩,f1,⟨_,p2⟩,f2,⟨_,p3⟩,f3,⟨_,p4⟩,f4,⟨_,p5⟩,f5,⟨_,p6⟩,f6,⟨_,p7⟩,f7,Be,Bf⟩:=st8 Q6.out (.int .i64 5) (.string ⟨#[]⟩) (.string ⟨#[]⟩) (.slice none 0 0) (.slice none 0 0) (.slice none 0 0) (.slice a6 n6 c6) (.int .i64 p);have Bg:=qaa Be;have KQ:=qaa Bf;clear Be Bf;go_wp2;clear p0 f0 p1 f1 p2 f2 p3 f3 p4 f4 p5 f5 p6 f6 p7 f7;generalize ((((((((w6.setCell ⟨Q,0,none⟩ (.int .i64 5)).setCell ⟨Q,1,none⟩ (.string ⟨#[]⟩)).setCell ⟨Q,2,none⟩ (.string ⟨#[]⟩)).setCell ⟨Q,3,none⟩ (.slice none 0 0)).setCell ⟨Q,4,none⟩ (.slice none 0 0)).setCell ⟨Q,5,none⟩ (.slice none 0 0)).setCell ⟨Q,6,none⟩ (.slice a6 n6 c6)).setCell ⟨Q,7,none⟩ (.int .i64 p))=w9 at *;obtain⟨q0,q1,q2,q3,q4,q5,q6,q7⟩:=ld8 Bg.out;refine Yg (by simp[results,Tryz.results58,go_sem,q0,q1,q2,q3,q4,q5,q6,q7];try rfl) rfl ?_;have hrq:¬rp=Q:=by have:=Bc.out;omega
    have Bv:¬g=Q:=by have:=Bc.out;omega
    refine⟨_,_,_,_,_,rfl,⟨_,_,_,_,_,_,_,_,_,_,_,_,_,_,_,_,rfl⟩,D6.out.kept KQ.out hrq Bv,KE.out.fin KQ.out (by have:=Bi.out;omega),qdw.ofX Dx.out ?_⟩;by_cases h1:e2=0
    ·obtain⟨_,g2,g3,g4,g5,cs,bs,g6⟩:=AL.out h1
     have hXX:=HO.out h1;have EF:=Lx.out h1;have h63:=L9.out h1;have hdp:dpt (.mk 5 [] [] [] [] [] ks p)=dpt.dptL ks+1:=qck _;have hle:dpt.dptL ks≤16:=qew.2 (fun k hk=>(g3 k hk).1);have hw:wrap64 (d+1)=d+1:=by unfold wrap64;omega
     by_cases hd:d+1≤16
     ·obtain⟨e1,e3⟩:=EF (by rw[hw];omega)
      refine .inl ⟨e1,e3,_,_,_,rfl,?_,(g6.ct.frame K6.out hlo Yi).frame KQ.out (fun j hj=>?_) ?_,(List.nodup_cons.1 g6.nd).2,?_⟩
      ·rw[hw,g2,hdp];omega
      ·have:=Bd.out
       rw[hj];omega
      ·have:=Bd.out
       omega
      ·rw[hXX]
       show qbl _ _=_;unfold qbl;rw[if_neg (by rw[hdp];omega)]
     ·obtain⟨e1,e3⟩:=h63 (by rw[hw];omega)
      refine .inr ⟨by rw[e1];decide,?_⟩;rw[hXX,e1,e3];show qbl _ _=_;unfold qbl;rw[if_pos (by rw[hdp];omega)];rfl
    ·obtain⟨e1,e3⟩:=Lu.out h1
     refine .inr ⟨by rw[e1];exact h1,?_⟩;rw[EO.out h1,e1,e3]
   |true=>
    obtain⟨he2,hX2,hfu⟩:=Ef.out rfl;subst he2;obtain⟨hq2,hd2,hgd,hkl,hii,cs,bs,hrow⟩:=AL.out rfl;subst hq2;have NF:=qaa hd2;have NG:=qaa hgd;have De:=qaa hkl;have Ga:=qaa hii;have LH:=qaa hrow;have Bl:=qaa hX2;have Df:=qaa hfu;have Gg:n6=ks.length:=by
     obtain⟨_,_,h⟩:=hrow.v6;cases h;rfl
    subst Gg;obtain⟨z,hz⟩:∃z,z=tok Ts i':=⟨_,rfl⟩;have HZ:=qaa hz;clear AL Ef Eg EO Ev hX2 hfu hd2 hgd hkl hii hrow hz;have g6:wr.cell? ⟨P8,6,none⟩=some (.slice a6 ks.length c6):=by rw[Ye _ _ _ _ _ _ BR.out];rfl
    go_upto_if 38 with fail
    clear g6;go_cut [56] (fun _ wx=>∃e3 q3,Hid (DpA wx base rp g cap Ts i' e3 q3)∧Hid (e3=0→q3=0∧X=(qaf Ts f 2 i').bind fun c j=>rowP Ts (qaf Ts f 2) qeq 5 f' (ks++[c]) p j)∧Hid (e3≠0→X=.bad e3 q3)∧Hid (Kept (fun k=>k=rp) wr wx))
    case first=>
     by_cases h32:ks.length=32
     ·have GQ:((ks.length:Int)==32)=true:=by simp;omega
      have El:=qaa (qgc DR.out Bp.out);by_cases hbg:qe3 Ts i'=true
      ·rw[hbg] at El
       have HXB:Hid (X=.bad 92 z.p):=by
        unfold Hid;rw[Bl.out];unfold qhs;rw[if_pos ⟨h32,hbg⟩,←HZ.out]
       clear hbg h32;go_upto_region 12 with(go_at_call 87;refine El.out.mono ?_;rintro e' w5 ⟨rfl,x5⟩;have X5:=qaa x5;clear x5)
       clear GQ;have D5:=qaa (DR.out.below X5.out);have HQ:Hid (∀V,Below w5.heap.size w5 V→(V.cell? ⟨rp,0,none⟩=some (.slice (some ⟨g,0,none⟩) Ts.length cap)∧V.cell? ⟨rp,1,none⟩=some (.int .i64 (i':Nat)))∧V.cell? ⟨g,i'*6,none⟩=some (.int .i64 z.k)∧V.cell? ⟨g,i'*6+1,none⟩=some (.string ⟨z.t.toArray⟩)∧V.cell? ⟨g,i'*6+2,none⟩=some (.int .i64 z.n)∧V.cell? ⟨g,i'*6+3,none⟩=some (.int .i64 z.a)∧V.cell? ⟨g,i'*6+4,none⟩=some (.int .i64 z.b)∧V.cell? ⟨g,i'*6+5,none⟩=some (.int .i64 z.p)):=fun V y=>by
        have h:=D5.out.below y;rw[HZ.out];exact⟨h.two,h.cells⟩
       have hlt:(i':Int)<Ts.length:=by have:=D5.out.lt;omega
       refine qam (S:=fun V=>Below w5.heap.size w5 V) 12 (by kernel_rfl) ?_;have Bb:Hid (Below w5.heap.size w5 w5.drew):=Yj.drew;generalize w5.drew=vd at *;refine qac.tk 0 rfl 42 Bb.out (fun a b=>by obtain⟨⟨_,_⟩,_,_,_,_,_,_⟩:=HQ.out a b;go_simp;first|done|rfl) ?_
       try simp only[Act.put,Ya,Yb,Yc]
       refine qac.tk 1 rfl 43 Bb.out (fun a b=>by obtain⟨⟨_,_⟩,_,_,_,_,_,_⟩:=HQ.out a b;go_simp;first|done|rfl) ?_
       try simp only[Act.put,Ya,Yb,Yc]
       refine qac.tk 2 rfl 44 Bb.out (fun a b=>by obtain⟨⟨_,_⟩,_,_,_,_,_,_⟩:=HQ.out a b;go_simp;first|done|rfl) ?_
       try simp only[Act.put,Ya,Yb,Yc]
       refine qac.tk 3 rfl 45 Bb.out (fun a b=>by obtain⟨⟨_,_⟩,_,_,_,_,_,_⟩:=HQ.out a b;go_simp;first|done|rfl) ?_
       try simp only[Act.put,Ya,Yb,Yc]
       refine qac.tk 4 rfl 46 Bb.out (fun a b=>by obtain⟨⟨_,_⟩,_,_,_,_,_,_⟩:=HQ.out a b;go_simp;first|done|rfl) ?_
       try simp only[Act.put,Ya,Yb,Yc]
       refine qac.tk 5 rfl 47 Bb.out (fun a b=>by obtain⟨⟨_,_⟩,_,_,_,_,_,_⟩:=HQ.out a b;go_simp;first|done|rfl) ?_
       try simp only[Act.put,Ya,Yb,Yc]
       refine qac.tk 6 rfl 48 Bb.out (fun a b=>by obtain⟨⟨_,_⟩,_,_,_,_,_,_⟩:=HQ.out a b;go_simp;first|done|rfl) ?_
       try simp only[Act.put,Ya,Yb,Yc]
       refine qac.tk 7 rfl 49 Bb.out (fun a b=>by obtain⟨⟨_,_⟩,_,_,_,_,_,_⟩:=HQ.out a b;go_simp;first|done|rfl) ?_
       try simp only[Act.put,Ya,Yb,Yc]
       refine qac.tk 8 rfl 50 Bb.out (fun a b=>by obtain⟨⟨_,_⟩,_,_,_,_,_,_⟩:=HQ.out a b;go_simp;first|done|rfl) ?_
       try simp only[Act.put,Ya,Yb,Yc]
       refine qac.tk 9 rfl 51 Bb.out (fun a b=>by obtain⟨⟨_,_⟩,_,_,_,_,_,_⟩:=HQ.out a b;go_simp;first|done|rfl) ?_
       try simp only[Act.put,Ya,Yb,Yc]
       refine qac.tk 10 rfl 52 Bb.out (fun a b=>by obtain⟨⟨_,_⟩,_,_,_,_,_,_⟩:=HQ.out a b;go_simp;first|done|rfl) ?_
       try simp only[Act.put,Ya,Yb,Yc]
       refine qac.tk 11 rfl 53 Bb.out (fun a b=>by obtain⟨⟨_,_⟩,_,_,_,_,_,_⟩:=HQ.out a b;go_simp;first|done|rfl) ?_
       try simp only[Act.put,Ya,Yb,Yc]
       have HC:=qaa (qcg (D5.out.below Bb.out) 92 z.p);refine qac.lst rfl fun K hK=>?_
       go_simp;refine HC.out.mono ?_;rintro e' w6 ⟨rfl,d6,k6⟩;have D6:=qaa d6;have K6:Hid (Kept (fun k=>k=rp) wr w6):=((Kept.of_below X5.out).trans (Kept.of_below Bb.out)).trans k6;refine hK _ _ ?_;clear hK K hlt HQ d6 k6 Bb HC X5 D5 El;have HT:=qaa (qb9 D6.out (by decide));go_wp2_with (go_at_call 55;refine HT.out.mono ?_;rintro e' w7 ⟨rfl,x7⟩;have X7:=qaa x7;clear x7);have D7:=qaa (D6.out.below X7.out);have K7:Hid (Kept (fun k=>k=rp) wr w7):=K6.out.trans (Kept.of_below X7.out);go_meet;exact⟨92,z.p,D7,fun h=>absurd h (by decide),fun _=>HXB.out,K7⟩
      ·have DL:qe3 Ts i'=false:=by simpa using hbg
       rw[DL] at El;have HXB:Hid (X=.bad 90 z.p):=by
        unfold Hid;rw[Bl.out];unfold qhs;rw[if_neg (fun h=>hbg h.2),qel DL f 2 (by decide) (by have:=Gq.out;omega),←HZ.out];rfl
       clear hbg DL h32;have HT:=qaa (fun V (y:Below wr.heap.size wr V)=>qcr (DR.out.below y));rw[←HZ.out] at HT;go_wp2_with (first
        |(go_at_call 87;refine El.out.mono ?_;rintro e' w5 ⟨rfl,x5⟩;have X5:=qaa x5;clear x5)
        |(go_at_call 55;refine(HT.out _ X5.out).mono ?_;rintro e' w7 ⟨rfl,d7,k7⟩;have D7:=qaa d7;have K7:=qaa k7;clear d7 k7))
       have K8:Hid (Kept (fun k=>k=rp) wr w7):=(Kept.of_below X5.out).trans K7.out;go_meet;exact⟨90,z.p,D7,fun h=>absurd h (by decide),fun _=>HXB.out,K8⟩
     ·have GQ:((ks.length:Int)==32)=false:=by simp;omega
      have HXB:Hid (X=(qaf Ts f 2 i').bind fun c j=>rowP Ts (qaf Ts f 2) qeq 5 f' (ks++[c]) p j):=by
       unfold Hid;rw[Bl.out];unfold qhs;rw[if_neg (fun h=>h32 h.1)]
      clear h32;go_wp2;go_meet;exact⟨0,0,DR,fun _=>⟨rfl,HXB.out⟩,fun h=>absurd rfl h,Kept.refl _ _⟩
    case rest=>
     obtain⟨e3,qq3,D4,Jc,ED,K4⟩:=hcut;have Gs:=DR.out.lt;have Jd:=qaa Gs;have Eu:=qaa (LH.out.frame K4.out hlo);have Q4:=qaa ((K4.out.block Q (Yd QR.out) nQ).trans QR.out);have KA:=qaa (KR.out.trans K4.out);clear BR DR KR QR LH Bl HZ Gs K4;generalize wc=w4 at *;have HI:=qaa (BK.out i' w4 e3 qq3 (fun he=>⟨(Jc.out he).1,by have:=Gq.out;have:=Ga.out;omega⟩) D4.out);go_upto_region 14 with fail
     go_wp2_with (fail);refine HI.out.mono ?_;rintro e' w5 ⟨v,dd,i5,e5,qq5,rfl,⟨k2,nm2,tx2,b3,m3,r3,b4,m4,r4,b5,m5,r5,b6,m6,r6,p2,rfl⟩,d5,k5,h5⟩;have D5:=qaa d5;have HJ:Hid (∃c2,(e5=0→qq5=0∧(i'<i5∧i5≤Ts.length)∧Gd Ts.length c2∧dd=(dpt c2:Nat)∧∃vs cb,X=rowP Ts (qaf Ts f 2) qeq 5 f' (ks++[c2]) p i5∧(.agg #[.int .i64 k2,.string nm2,.string tx2,.slice b3 m3 r3,.slice b4 m4 r4,.slice b5 m5 r5,.slice b6 m6 r6,.int .i64 p2]:Value)=.agg vs.toArray∧qaj w5 w4.heap.size c2 vs cb∧cb.Nodup)∧(e5≠0→X=.bad e5 qq5)):=by
      rcases h5 with⟨h0,h1,h2,c,vs,cb,h3,h4,h6,h7,h8⟩|⟨h1,h2,h3⟩
      ·refine⟨c,fun _=>⟨h2,(qax f 2 i' (by decide) (Nat.le_of_lt Jd.out) (by have:=Gq.out;have:=Ga.out;omega)).lt h8,qay f 2 i' c i5 (by decide) (Nat.le_of_lt Jd.out) (by have:=Gq.out;have:=Ga.out;omega) h8,h4,vs,cb,?_,h3,h6,h7⟩,fun h=>absurd h1 h⟩
       rw[(Jc.out h0).2,h8];rfl
      ·refine⟨.mk 0 [] [] [] [] [] [] 0,fun h=>absurd h h1,fun _=>?_⟩
       by_cases h0:e3=0
       ·rw[(Jc.out h0).2,h2 h0]
        rfl
       ·obtain⟨g1,g2⟩:=h3 h0
        rw[ED.out h0,g1,g2]
     obtain⟨c2,hj1,hj2⟩:=HJ.out;have BX:=qaa hj1;have HJ2:=qaa hj2;have LJ:=qaa (Eu.out.frame k5 hlo);have Q5:=qaa ((k5.block Q (Yd Q4.out) nQ).trans Q4.out);have KB:=qaa (KA.out.trans k5);have EJ:=qaa Eu.out.lo;have EK:Hid (W.heap.size≤w4.heap.size):=by have:=Eu.out.bas;have:=Yd Eu.out.blk;unfold Hid;omega
     clear HJ hj1 hj2 d5 k5 h5 HI D4 Eu Q4 KA Jc ED;have X6:Hid (Below w5.heap.size w5 (w5.alloc (.cells #[.int .i64 k2,.string nm2,.string tx2,.slice b3 m3 r3,.slice b4 m4 r4,.slice b5 m5 r5,.slice b6 m6 r6,.int .i64 p2] 60))):=al Yj _;have JF:=qaa (Yh w5 (.cells #[.int .i64 k2,.string nm2,.string tx2,.slice b3 m3 r3,.slice b4 m4 r4,.slice b5 m5 r5,.slice b6 m6 r6,.int .i64 p2] 60));go_upto_region 15 with fail
     obtain⟨P11,hP11⟩:∃P11,P11=w5.heap.size:=⟨_,rfl⟩;rw[←hP11] at JF;rw[←hP11];have D6:=qaa (D5.out.below X6.out);have E5:=qaa (LJ.out.below X6.out);have Q6:=qaa ((X6.out.block Q (Yd Q5.out)).trans Q5.out);have KC:=qaa (KB.out.trans (Kept.of_below X6.out));have Gt:=qaa X6.out;clear hP11 D5 LJ Q5 KB X6;generalize w5.alloc (.cells #[.int .i64 k2,.string nm2,.string tx2,.slice b3 m3 r3,.slice b4 m4 r4,.slice b5 m5 r5,.slice b6 m6 r6,.int .i64 p2] 60)=w8 at *;obtain⟨q0,q1,q2,q3,q4,q5,q6,q7⟩:=ld8 JF.out;have g6:w8.cell? ⟨P8,6,none⟩=some (.slice a6 ks.length c6):=by rw[Ye _ _ _ _ _ _ E5.out.blk];rfl
     have XC:Hid (Below w8.heap.size w8 (w8.alloc (.cells #[.int .i64 k2,.string nm2,.string tx2,.slice b3 m3 r3,.slice b4 m4 r4,.slice b5 m5 r5,.slice b6 m6 r6,.int .i64 p2] 60))):=al Yj _;have BJ:=qaa (E5.out.below XC.out);have DC:=qaa (D6.out.below XC.out);have QC:=qaa ((XC.out.block Q (Yd Q6.out)).trans Q6.out);have LP:=qaa (KC.out.trans (Kept.of_below XC.out));have BN:=qaa (World.news_of_block (Yh w8 (.cells #[.int .i64 k2,.string nm2,.string tx2,.slice b3 m3 r3,.slice b4 m4 r4,.slice b5 m5 r5,.slice b6 m6 r6,.int .i64 p2] 60)));have DW:Hid (W.heap.size≤(w8.alloc (.cells #[.int .i64 k2,.string nm2,.string tx2,.slice b3 m3 r3,.slice b4 m4 r4,.slice b5 m5 r5,.slice b6 m6 r6,.int .i64 p2] 60)).heap.size):=by have:=BJ.out.bas;have:=Yd BJ.out.blk;unfold Hid;omega
     have LQ:=qaa (bt Gt.out XC.out Yi);have LU:Hid (ks.length≤1048576):=by have:=De.out;have:=Jd.out;have:=Dy.out;unfold Hid;omega
     obtain⟨ie,hie,hz0,hz1,hz2⟩:=info_parts Tryz.info60n;go_upto_region 16 with(at_builtin;refine wpList_append_lies _ rfl (.tmp 64) (.tmp 66) 58 rfl W.heap.size 60 ie (.agg #[.int .i64 0,.string ⟨#[]⟩,.string ⟨#[]⟩,.slice none 0 0,.slice none 0 0,.slice none 0 0,.slice none 0 0,.int .i64 0]) 8 144 Tryz.underlying58 hie hz0 hz1 hz2 rfl (by decide) _ ks.length cs rfl BJ.out.row ⟨w8.heap.size,0,none⟩ 1 1 [.int .i64 k2,.string nm2,.string tx2,.slice b3 m3 r3,.slice b4 m4 r4,.slice b5 m5 r5,.slice b6 m6 r6,.int .i64 p2] rfl rfl BN.out (by simp[Value.oneCell']) (by decide) (by have:=LU.out;unfold maxLen;omega) (by have:=LU.out;omega) DW.out _ rfl ?_;intro gD cD wD h1 h2 h3 h4;have Ed:Hid (e5=0→∃cs bs,qcx (wD.setCell ⟨P8,6,none⟩ (.slice (some ⟨gD,0,none⟩) (ks.length+1) cD)) W.heap.size P8 5 p (ks++[c2]) (.slice (some ⟨gD,0,none⟩) (ks.length+1) cD) cs bs):=(fun he=>by obtain⟨_,_,_,_,vs,cb,_,g3,g4,g5⟩:=BX.out he;have hvs:vs=[.int .i64 k2,.string nm2,.string tx2,.slice b3 m3 r3,.slice b4 m4 r4,.slice b5 m5 r5,.slice b6 m6 r6,.int .i64 p2]:=(by have:=congrArg (fun v=>match v with|Value.agg a=>a.toList|_=>[]) g3;simpa using this.symm);subst hvs;exact⟨_,_,qcx.push BJ.out (g4.below LQ.out) g5 EK.out EJ.out rfl h2 h1 h3⟩);have KG:=qaa (qc4 BJ.out.row h2 BJ.out.bas (.slice (some ⟨gD,0,none⟩) (ks.length+1) cD) 6);have BD:=((qae h2).block P8 (Yd BJ.out.blk) (fun ef=>(List.nodup_cons.1 BJ.out.nd).1 (List.mem_append.2 (.inl (qbc.2 ef))))).trans BJ.out.blk;have c7:wD.cell? ⟨P8,6,none⟩=some (.slice a6 ks.length c6):=(by rw[Ye _ _ _ _ _ _ BD];rfl);have f7:=Yf wD P8 6 _ _ BD;have BE:=qaa (qab BD 6 (.slice (some ⟨gD,0,none⟩) (ks.length+1) cD));clear h1 h2 h3 h4 BD)
     clear c7 f7 g6 q0 q1 q2 q3 q4 q5 q6 q7;have hl3:¬W.heap.size≤Q∧¬W.heap.size≤rp∧¬W.heap.size≤g:=by have:=Bc.out;have:=Bd.out;exact⟨by omega,by omega,by omega⟩
     have QD:=qaa ((KG.out.block Q (Yd QC.out) hl3.1).trans QC.out);have DD:=qaa (DC.out.kept KG.out hl3.2.1 hl3.2.2);have KD:Hid (Kept (fun k=>k=rp) w (wD.setCell ⟨P8,6,none⟩ (.slice (some ⟨gD,0,none⟩) (ks.length+1) cD))):=Kept.trans_new LP.out KG.out (fun k h1 h2=>absurd h2 (by have:=Bd.out;omega));have BF:Hid ((wD.setCell ⟨P8,6,none⟩ (.slice (some ⟨gD,0,none⟩) (ks.length+1) cD)).heap[P8]? =some (.cells #[.int .i64 5,.string ⟨#[]⟩,.string ⟨#[]⟩,.slice none 0 0,.slice none 0 0,.slice none 0 0,.slice (some ⟨gD,0,none⟩) (ks.length+1) cD,.int .i64 p] 60 (0,0))):=by
      have:=BE.out;simpa [Hid] using this
     clear hl3 QC DC LP KG BN DW XC D6 Q6 JF BE E5 BJ KC LQ Gt EJ EK;generalize wD.setCell ⟨P8,6,none⟩ (.slice (some ⟨gD,0,none⟩) (ks.length+1) cD)=wE at *;obtain⟨f2,hf2⟩:∃f2,f'=f2+1:=⟨f'-1,by have:=Df.out;have:=Jd.out;omega⟩;subst hf2;have LM:Hid (Lv X (fun l=>if isT Ts 1 qeq l=true then(qhs Ts f 2 qeq 5 (ks++[c2]) p f2) (l+1) else(fun l=>qbl (.mk 5 [] [] [] [] [] (ks++[c2]) p) l) l) i5 e5 qq5):=by
      by_cases h0:e5=0
      ·obtain⟨g1,_,_,_,vs,cb,g2,_⟩:=BX.out h0
       exact .inl ⟨h0,g1,g2⟩
      ·exact .inr ⟨h0,HJ2.out h0⟩
     have Dm:=qaa (qcv (y1:=(qhs Ts f 2 qeq 5 (ks++[c2]) p f2)) (y2:=(fun l=>qbl (.mk 5 [] [] [] [] [] (ks++[c2]) p) l)) (fun l hl=>qbo Bp.out (by decide) hl) DD.out LM.out);rw[NA.out] at Dm;have hmx:e5=0→max d dd=((dpt.dptL (ks++[c2]):Nat):Int):=fun he=>by
      obtain⟨_,_,_,g4,_⟩:=BX.out he;rw[NF.out,g4,qeb];omega
     have La:=qaa hmx;clear hmx;go_wp2_with (go_at_call 85;refine Dm.out.mono ?_;rintro e' wF ⟨b,iF,eF,qqF,rfl,dF,h1,h2,kF⟩;have DF:=qaa dF;have H1:=qaa h1;have H2:=qaa h2;have KF:=qaa kF;clear dF h1 h2 kF);have BG:=qaa ((KF.out.block P8 (Yd BF.out) nP8).trans BF.out);have QG:=qaa ((KF.out.block Q (Yd QD.out) nQ).trans QD.out);have KH:=qaa (KD.out.trans KF.out);have HG2:Hid (∀k∈ks++[c2],e5=0→Gd Ts.length k):=fun k hk he=>by
      rcases List.mem_append.1 hk with hk|hk
      ·exact NG.out k hk
      ·rw[List.mem_singleton.1 hk]
       exact(BX.out he).2.2.1
     go_roundg (f2+1)
     case measure=>have:=HG.out;omega
     case rel=>
      have hal:e5=0→i5≤iF→eF=0→qqF=0→(qqF=0∧max d dd=(dpt.dptL (ks++[c2]):Nat)∧(∀k∈ks++[c2],Gd Ts.length k)∧(ks++[c2]).length≤iF∧i≤iF∧∃cs bs,qcx wF W.heap.size P8 5 p (ks++[c2]) (.slice (some ⟨gD,0,none⟩) (ks.length+1) cD) cs bs):=fun he hi he2 hq=>by
       obtain⟨cs',bs',hr⟩:=Ed.out he;have h3:=(BX.out he).2.1;have h4:=De.out;have h5:=Ga.out;exact⟨hq,La.out he,fun k hk=>HG2.out k hk he,by rw[List.length_append,List.length_singleton];omega,by omega,cs',bs',hr.frame KF.out hlo⟩
      refine⟨b,max d dd,ks++[c2],_,iF,eF,qqF,f2,rfl,rfl,BG,⟨_,_,_,rfl⟩,DF,KH,QG,fun he=>?_,fun hb=>?_,fun hb he=>?_,fun he=>?_,by omega⟩
      ·cases b with
       |true=>
        obtain⟨g0,g1,g2,g3,_,_⟩:=H1.out rfl;exact hal g0 (by omega) g1 g2
       |false=>
        obtain⟨g1,g2,g3⟩:=H2.out rfl;refine hal (g2 he) (by omega) he ?_;rcases g3 with⟨_,h,_⟩|⟨h,_⟩
        ·exact h
        ·exact absurd he h
      ·obtain⟨g0,g1,g2,g3,_,g5⟩:=H1.out hb
       have h3:=(BX.out g0).2.1;have:=Df.out;exact⟨g1,g5,by omega⟩
      ·obtain⟨g1,g2,g3⟩:=H2.out hb
       rcases g3 with⟨_,_,h⟩|⟨h,_⟩
       ·exact h
       ·exact absurd he h
      ·cases b with
       |true=>exact absurd (H1.out rfl).2.1 he
       |false=>
        rcases (H2.out rfl).2.2 with⟨h,_⟩|⟨_,h⟩
        ·exact absurd h he
        ·exact h
theorem qdw.dead_any {base rp g cap:Nat} {Ts:List Tk} {w w':World} {e q:Int} {x y:PR CT} {e':Ending} (he:e≠0) (h:qdw base rp g cap Ts w e q x e' w'):qdw base rp g cap Ts w e q y e' w':=by
 obtain⟨v,d,i',e1,q1,h1,h2,h3,h4,h5⟩:=h;refine⟨v,d,i',e1,q1,h1,h2,h3,h4,?_⟩;rcases h5 with⟨h,_⟩|⟨h5,_,h7⟩
 ·exact absurd h he
 ·exact .inr ⟨h5,fun h=>absurd h he,h7⟩
def AllD (base rp g cap:Nat) (Ts:List Tk) (f:Nat):Prop:=
 (∀(i:Nat) (w:World) (e q:Int),(e=0→q=0∧4*(Ts.length-i)+1+2≤f)→DpA w base rp g cap Ts i e q→Calls Tryz.prog 124 #[.pointer (some ⟨rp,0,none⟩)] w (qdw base rp g cap Ts w e q (qaf Ts f 2 i)))∧
 (∀(i:Nat) (w:World) (e q:Int),(e=0→q=0∧4*(Ts.length-i)+2+2≤f)→DpA w base rp g cap Ts i e q→Calls Tryz.prog 58 #[.pointer (some ⟨rp,0,none⟩),.string ⟨#[97,110,100]⟩] w (qdw base rp g cap Ts w e q (qaf Ts f 1 i)))∧
 (∀(i:Nat) (w:World) (e q:Int),(e=0→q=0∧4*(Ts.length-i)+3+2≤f)→DpA w base rp g cap Ts i e q→Calls Tryz.prog 58 #[.pointer (some ⟨rp,0,none⟩),.string ⟨#[111,114]⟩] w (qdw base rp g cap Ts w e q (qaf Ts f 0 i)))
theorem allD {base rp g cap:Nat} {Ts:List Tk} (hg:GdT Ts):∀f,AllD base rp g cap Ts f:=by
 intro f
 induction f using Nat.strongRecOn with
 |ind f ih=>
  have hN:∀(i:Nat) (w:World) (e q:Int),(e=0→q=0∧4*(Ts.length-i)+1+2≤f)→DpA w base rp g cap Ts i e q→Calls Tryz.prog 124 #[.pointer (some ⟨rp,0,none⟩)] w (qdw base rp g cap Ts w e q (qaf Ts f 2 i)):=by
   intro i w e q hh h;by_cases he:e=0
   ·obtain⟨hq,hf⟩:=hh he
    have hlt:=h.lt;obtain⟨n,rfl⟩:∃n,f=n+2:=⟨f-2,by omega⟩;refine qkx hg (fun _=>by omega) (fun _=>hq) (fun _ l V h1 h2 h3=>(ih (n+1) (by omega)).1 l V 0 0 (fun _=>⟨rfl,by omega⟩) h3) (fun _ l V h1 h2 h3=>(ih n (by omega)).2.2 l V 0 0 (fun _=>⟨rfl,by omega⟩) h3) h
   ·exact(qkx (f:=0) hg (fun h=>absurd h he) (fun h=>absurd h he) (fun h=>absurd h he) (fun h=>absurd h he) h).mono (fun _ _ hp=>hp.dead_any he)
  have hA:∀(i:Nat) (w:World) (e q:Int),(e=0→q=0∧4*(Ts.length-i)+2+2≤f)→DpA w base rp g cap Ts i e q→Calls Tryz.prog 58 #[.pointer (some ⟨rp,0,none⟩),.string ⟨#[97,110,100]⟩] w (qdw base rp g cap Ts w e q (qaf Ts f 1 i)):=by
   intro i w e q hh h;cases f with
   |zero=>
    have he:e≠0:=fun he=>by have:=(hh he).2;omega
    exact(qkz (f:=0) hg (fun h=>absurd h he) (fun h=>absurd h he) (fun l V e q hl hD=>qis (fun V' hV=>hN l V' e q (fun he=>⟨(hl he).1,by have:=(hl he).2;omega⟩) hV) hD) h).mono (fun _ _ hp=>hp.dead_any he)
   |succ n=>
    rw[qd9];exact qkz hg (fun he=>by have:=(hh he).2;omega) (fun he=>(hh he).1) (fun l V e q hl hD=>qis (fun V' hV=>(ih n (by omega)).1 l V' e q (fun he=>⟨(hl he).1,by have:=(hl he).2;omega⟩) hV) hD) h
  refine⟨hN,hA,?_⟩;intro i w e q hh h;cases f with
  |zero=>
   have he:e≠0:=fun he=>by have:=(hh he).2;omega
   exact(qoj (f:=0) hg (fun h=>absurd h he) (fun h=>absurd h he) (fun l V e q hl hD=>qky (fun V' hV=>hA l V' e q (fun he=>⟨(hl he).1,by have:=(hl he).2;omega⟩) hV) hD) h).mono (fun _ _ hp=>hp.dead_any he)
  |succ n=>
   rw[qdu];exact qoj hg (fun he=>by have:=(hh he).2;omega) (fun he=>(hh he).1) (fun l V e q hl hD=>qky (fun V' hV=>(ih n (by omega)).2.1 l V' e q (fun he=>⟨(hl he).1,by have:=(hl he).2;omega⟩) hV) hD) h
theorem qok {base rp g cap:Nat} {Ts:List Tk} (hg:GdT Ts) {f i:Nat} {w:World} {e q:Int} (hh:e=0→q=0∧4*(Ts.length-i)+5≤f) (h:DpA w base rp g cap Ts i e q):Calls Tryz.prog 58 #[.pointer (some ⟨rp,0,none⟩),.string ⟨#[111,114]⟩] w (qdw base rp g cap Ts w e q (qaf Ts f 0 i)):=
 (allD hg f).2.2 i w e q (fun he=>⟨(hh he).1,by have:=(hh he).2;omega⟩) h
end Go.Proofs.YtlmhofjiobmodaaGreatDoor

