/-
  The document's Parse by its contract: any source. No condition.
-/
import Derived.Test.YtlmhofjiobmodaaGreatDoorP47
import Derived.Test.YtlmhofjiobmodaaGreatDoorP51
import Derived.Test.YtlmhofjiobmodaaGreatDoorP35
import Derived.Test.YtlmhofjiobmodaaGreatDoorP36
set_option maxRecDepth 100000
set_option maxHeartbeats 16000000
namespace Go.Proofs.YtlmhofjiobmodaaGreatDoor
open Go.RowKit Go.Lib
theorem qgj {s:By} {c q:Int} (h:qbb s=.error (c,q)) (w:World):
 Calls Tryz.prog 12 #[.string ⟨s.toArray⟩] w fun e w'=>qf8 s w.heap.size e w'∧Below w.heap.size w w':=by
 have Bq:Hid (qdc s=.error (c,q)):=by unfold Hid qdc;rw[h]
 have hcb:(c !=0)=true:=by have:=qdd h;simpa using this
 have HH:=qaa h;obtain⟨Q,hQ⟩:∃Q,Q=w.heap.size:=⟨_,rfl⟩;obtain⟨W,hW⟩:∃W,W=w.alloc (.cells #[.slice none 0 0] 36):=⟨_,rfl⟩;have X0:=qaa (show Below w.heap.size w W by rw[hW];exact al Yj _);have Q0:=qaa (show W.heap[Q]? =some (.cells #[.slice none 0 0] 36 (0,0)) by rw[hW,hQ];exact Yh w _);have Bi:=qaa hQ;have HS:=qaa (qix s W);clear h;go_enter Tryz.func12,Tryz.ntmps12;go_upto_region 1 with fail
 rw[←hQ,←hW];clear hQ hW;go_wp2_with (fail);refine HS.out.mono ?_;rintro e w1 ⟨g1,x1⟩;unfold qji at g1;rw[HH.out] at g1;subst g1;have Q1:=qaa ((x1.block Q (Yd Q0.out)).trans Q0.out);have XA:=qaa (bt X0.out x1 Yi);clear x1 HS Q0 X0;have c2:w1.cell? ⟨Q,0,none⟩=some (.slice none 0 0):=by rw[Ye _ _ _ _ _ _ Q1.out];rfl
 have f2:=Yf w1 Q 0 _ _ Q1.out;have Q2:Hid ((w1.setCell ⟨Q,0,none⟩ (.slice none 0 0)).heap[Q]? =some (.cells #[.slice none 0 0] 36 (0,0))):=by
  have:=qab Q1.out 0 (.slice none 0 0);simpa [Hid] using this
 have K2:Hid (Kept (fun k=>k=Q) w1 (w1.setCell ⟨Q,0,none⟩ (.slice none 0 0))):=Kept.setCell (F:=fun k=>k=Q) (p:=⟨Q,0,none⟩) (Kept.refl _ _) rfl _;go_wp2;clear c2 f2;generalize w1.setCell ⟨Q,0,none⟩ (.slice none 0 0)=w9 at *;have r0:w9.cell? ⟨Q,0,none⟩=some (.slice none 0 0):=by rw[Ye _ _ _ _ _ _ Q2.out];rfl
 refine Yg (by simp[results,Tryz.results12,go_sem,r0];try rfl) rfl ?_;exact⟨qf8.err Bq.out rfl,Below.low XA.out K2.out (fun k hk=>by have:=Bi.out;rw[hk];omega)⟩
def parR (x:PR (List IT)):Except (Int×Int) (List IT):=match x with
 |.ok L _=>.ok L
 |.bad e p=>.error (e,p)
 |.out=>.error (0,0)
theorem qqs {s:By} {Ts:List Tk} (h:qbb s=.ok Ts):qdc s=parR (qfp Ts):=by
 unfold qdc;rw[h];rfl
theorem qox (Ts:List Tk) (f:Nat) (L:List IT) (i:Nat) (h8:¬(tok Ts i).k=8):qg7 Ts (f+1) L i=if qas Ts i≠0∧L.length=100 then .bad 92 (tok Ts i).p else(qqi Ts f i).bind fun x j=>qg7 Ts f (L++[x]) j:=by
 show(if (tok Ts i).k=8 then _ else if qas Ts i=0 then _ else if L.length=100 then _ else _)=_;rw[if_neg h8];unfold qqi;by_cases h0:qas Ts i=0
 ·rw[if_pos h0,if_pos h0,if_neg (fun h=>h.1 h0)]
  rfl
 ·rw[if_neg h0,if_neg h0]
  by_cases h1:L.length=100
  ·rw[if_pos h1,if_pos ⟨h0,h1⟩]
  ·rw[if_neg h1,if_neg (fun h=>h1 h.2)]
theorem qj2 {s:By} {Ts:List Tk} (h:qbb s=.ok Ts) (w:World):
 Calls Tryz.prog 12 #[.string ⟨s.toArray⟩] w fun e w'=>qf8 s w.heap.size e w'∧Below w.heap.size w w':=by
 obtain⟨X,hX⟩:∃X,X=qfp Ts:=⟨_,rfl⟩;have Bq:Hid (qdc s=parR X):=by rw[hX];exact qqs h
 have Bp:=qaa (qf5 h);have HH:=qaa h;have Du:Hid (X=qg7 Ts (5*Ts.length+6) [] 0):=hX;obtain⟨Q,hQ⟩:∃Q,Q=w.heap.size:=⟨_,rfl⟩;obtain⟨W,hW⟩:∃W,W=w.alloc (.cells #[.slice none 0 0] 36):=⟨_,rfl⟩;have X0:=qaa (show Below w.heap.size w W by rw[hW];exact al Yj _);have Q0:=qaa (show W.heap[Q]? =some (.cells #[.slice none 0 0] 36 (0,0)) by rw[hW,hQ];exact Yh w _);have Bi:=qaa hQ;have HS:=qaa (qix s W);clear h hX;go_enter Tryz.func12,Tryz.ntmps12;go_upto_region 1 with fail
 rw[←hQ,←hW];clear hQ hW;go_wp2_with (fail);refine HS.out.mono ?_;rintro e w1 ⟨g1,x1⟩;unfold qji at g1;rw[HH.out] at g1;obtain⟨tv,rfl,ht⟩:=g1;obtain⟨av,cv,Ng,BS⟩:=qad ht;obtain⟨g,hg⟩:=BS Bp.out.pos;subst hg;subst Ng;have HT:=qaa ht;have Q1:=qaa ((x1.block Q (Yd Q0.out)).trans Q0.out);have XA:=qaa (bt X0.out x1 Yi);have BL:Hid (W.heap.size≤w1.heap.size):=x1.size;have GU:Hid (Q<W.heap.size):=Yd Q0.out;clear x1 HS Q0 X0 ht BS;obtain⟨rp,Jr⟩:∃rp,rp=w1.heap.size:=⟨_,rfl⟩;obtain⟨P,hP⟩:∃P,P=w1.heap.size+1:=⟨_,rfl⟩;obtain⟨w2,hw2⟩:∃w2,w2=(w1.alloc (.cells #[.slice (some ⟨g,0,none⟩) Ts.length cv,.int .i64 0,.int .i64 0,.int .i64 0] 77)).alloc (.cells #[.slice none 0 0] 36):=⟨_,rfl⟩;have X2:=qaa (show Below w1.heap.size w1 w2 by rw[hw2];exact al (al Yj _) _);have R2:=qaa (show w2.heap[rp]? =some (.cells #[.slice (some ⟨g,0,none⟩) Ts.length cv,.int .i64 0,.int .i64 0,.int .i64 0] 77 (0,0)) by
  rw[hw2,Jr];exact(heap_alloc_old _ _ (by simp)).trans (Yh w1 _))
 have P2:=qaa (show w2.heap[P]? =some (.cells #[.slice none 0 0] 36 (0,0)) by
  rw[hw2,hP,show w1.heap.size+1=(w1.alloc (.cells #[.slice (some ⟨g,0,none⟩) Ts.length cv,.int .i64 0,.int .i64 0,.int .i64 0] 77)).heap.size by simp];exact Yh _ _)
 have D2:Hid (DpA w2 W.heap.size rp g cv Ts 0 0 0):=⟨R2.out,own_below HT.out X2.out,Bp.out.pos,by have:=Bp.out.few;omega,Bp.out.endk⟩;have Q2:=qaa ((X2.out.block Q (Yd Q1.out)).trans Q1.out);have Bd:Hid (rp=w1.heap.size∧P=w1.heap.size+1∧w2.heap.size=w1.heap.size+2∧Q<w1.heap.size∧g<w1.heap.size):=⟨Jr,hP,by rw[hw2];simp,Yd Q1.out,(World.ownsRow.lt HT.out g rfl).2⟩;go_upto_block 0 with fail
 rw[←hP,←Jr,←hw2];have XB:=qaa (bt XA.out X2.out Yi);have O2:=qaa (qcy.nil w2 w2.heap.size);have HW1:Hid (w.heap.size≤w1.heap.size):=XA.out.size;clear hP Jr hw2 R2 HT X2 Q1 XA;have nQ:Q≠rp:=by have:=Bd.out;omega
 have nP:P≠rp:=by have:=Bd.out;omega
 have Ox:Hid (Below w.heap.size w w2):=XB.out;go_wp2;go_loopg [45] (5*Ts.length+7) (fun gg xx wr=>∃(L:List IT) (v:Value) (i':Nat) (e q:Int) (f':Nat),xx=xx∧Hid (∃a n c,v=.slice a n c)∧Hid (wr.heap[P]? =some (.cells #[v] 36 (0,0)))∧Hid (DpA wr W.heap.size rp g cv Ts i' e q)∧Hid (Below w.heap.size w wr)∧Hid (wr.heap[Q]? =some (.cells #[.slice none 0 0] 36 (0,0)))∧Hid (e=0→q=0∧X=qg7 Ts f' L i'∧L.length≤100∧(Ts.length-i')+4*Ts.length+6≤f'∧∃cs bs,qcy wr w2.heap.size L v cs bs)∧Hid (e≠0→X=.bad e q)∧f'<gg)
 case atStart=>
  refine⟨[],.slice none 0 0,0,0,0,5*Ts.length+6,rfl,⟨_,_,_,rfl⟩,P2,D2,Ox,Q2,fun _=>⟨rfl,Du.out,by simp,by omega,[],[],O2.out⟩,fun h=>absurd rfl h,by omega⟩
 case round=>
  clear P2 D2 Ox Q2 O2 Du XB;obtain⟨L,v,i',e,q,f',_,Ev,PR,DR,KR,QR,HA,HB,hg⟩:=hrel;have HG:=qaa hg;clear hg;obtain⟨a6,n6,c6,hv⟩:=Ev.out;subst hv;obtain⟨z,hz⟩:∃z,z=tok Ts i':=⟨_,rfl⟩;have HZ:=qaa hz;clear hz Ev;have HD:Hid (Below wr.heap.size wr wr.drew):=Yj.drew;have HQ:Hid (∀V,Below wr.heap.size wr V→V.cell? ⟨rp,2,none⟩=some (.int .i64 e)∧(V.cell? ⟨rp,0,none⟩=some (.slice (some ⟨g,0,none⟩) Ts.length cv)∧V.cell? ⟨rp,1,none⟩=some (.int .i64 (i':Nat)))∧V.cell? ⟨g,i'*6,none⟩=some (.int .i64 z.k)∧V.cell? ⟨g,i'*6+1,none⟩=some (.string ⟨z.t.toArray⟩)∧V.cell? ⟨g,i'*6+2,none⟩=some (.int .i64 z.n)∧V.cell? ⟨g,i'*6+3,none⟩=some (.int .i64 z.a)∧V.cell? ⟨g,i'*6+4,none⟩=some (.int .i64 z.b)∧V.cell? ⟨g,i'*6+5,none⟩=some (.int .i64 z.p)):=fun V y=>by
   have h:=DR.out.below y;rw[HZ.out];exact⟨h.four.2.2.1,h.two,h.cells⟩
  have hlt:(i':Int)<Ts.length:=by have:=DR.out.lt;omega
  by_cases he:e=0
  ·subst he
   obtain⟨hq,hX,hL,hfu,cs,bs,hO⟩:=HA.out rfl;subst hq;have HX:=qaa hX;have HL:=qaa hL;have Df:=qaa hfu;have OR:=qaa hO;clear HA HB hX hL hfu hO;obtain⟨f2,hf2⟩:∃f2,f'=f2+1:=⟨f'-1,by have:=Df.out;omega⟩;subst hf2;have Gg:n6=L.length:=by
    obtain⟨_,_,h,_⟩:=qad OR.out.row;cases h;rfl
   subst Gg;by_cases h8:z.k=8
   ·have JB:(z.k !=8)=false:=by simp[h8]
    have PM:Hid (X=.ok L i'):=by
     unfold Hid;rw[HX.out];show(if (tok Ts i').k=8 then _ else _)=_;rw[if_pos (by rw[←HZ.out];exact h8)]
    clear h8 HX;go_upto_region 6 with fail
    refine wp_region_quiet (C:=fun w'=>Below wr.heap.size wr w') (by kernel_rfl) (by kernel_rfl) HD.out ?_;refine QW.out (l:=_::_) ?_
    iterate 19 (refine QW.take (by rfl) ?_;apply Exists.intro;refine⟨fun w' hw'=>?_,?_⟩;(·(obtain⟨qe,⟨q0,q1⟩,q2,q3,q4,q5,q6,q7⟩:=HQ.out w' hw';go_simp;first|done|((try simp only[JB]);first|done|rfl)));try simp only[Act.put,Ya,Yb,Yc])
    refine QW.nil ?_;intro wq hwq;have XQ:=qaa hwq;clear hwq hlt HQ HD;have DQ:=qaa (DR.out.below XQ.out);have PQ:=qaa ((XQ.out.block P (Yd PR.out)).trans PR.out);have QQ:=qaa ((XQ.out.block Q (Yd QR.out)).trans QR.out);have OQ:=qaa (OR.out.below XQ.out);have XC:=qaa (bt KR.out XQ.out Yi);have ge:=DQ.out.four.2.2.1;go_upto_region 16 with fail
    clear ge;have g0:wq.cell? ⟨P,0,none⟩=some (.slice a6 L.length c6):=by rw[Ye _ _ _ _ _ _ PQ.out];rfl
    have g1:wq.cell? ⟨Q,0,none⟩=some (.slice none 0 0):=by rw[Ye _ _ _ _ _ _ QQ.out];rfl
    have f1:=Yf wq Q 0 _ _ QQ.out;have Q9:Hid ((wq.setCell ⟨Q,0,none⟩ (.slice a6 L.length c6)).heap[Q]? =some (.cells #[.slice a6 L.length c6] 36 (0,0))):=by
     have:=qab QQ.out 0 (.slice a6 L.length c6);simpa [Hid] using this
    have KQ:Hid (Kept (fun k=>k=Q) wq (wq.setCell ⟨Q,0,none⟩ (.slice a6 L.length c6))):=Kept.setCell (F:=fun k=>k=Q) (p:=⟨Q,0,none⟩) (Kept.refl _ _) rfl _;go_wp2;clear g0 g1 f1;generalize wq.setCell ⟨Q,0,none⟩ (.slice a6 L.length c6)=w9 at *;have r0:w9.cell? ⟨Q,0,none⟩=some (.slice a6 L.length c6):=by rw[Ye _ _ _ _ _ _ Q9.out];rfl
    refine Yg (by simp[results,Tryz.results12,go_sem,r0];try rfl) rfl ?_;have hpq:qdc s=.ok L:=by rw[Bq.out,PM.out];rfl
    exact⟨qf8.okI hpq rfl ((OQ.out.frame KQ.out (fun k hk=>by have:=Bd.out;rw[hk];omega)).mono (by have:=Bd.out;have:=HW1.out;omega)),Below.low XC.out KQ.out (fun k hk=>by have:=Bi.out;rw[hk];omega)⟩
   ·have JB:(z.k !=8)=true:=by simpa using h8
    have Mw:Hid (X=if qas Ts i'≠0∧L.length=100 then .bad 92 (tok Ts i').p else(qqi Ts f2 i').bind fun x j=>qg7 Ts f2 (L++[x]) j):=by
     unfold Hid;rw[HX.out,qox _ _ _ _ (by rw[←HZ.out];exact h8)]
    clear h8 HX;go_upto_region 6 with fail
    refine wp_region_quiet (C:=fun w'=>Below wr.heap.size wr w') (by kernel_rfl) (by kernel_rfl) HD.out ?_;refine QW.out (l:=_::_) ?_
    iterate 19 (refine QW.take (by rfl) ?_;apply Exists.intro;refine⟨fun w' hw'=>?_,?_⟩;(·(obtain⟨qe,⟨q0,q1⟩,q2,q3,q4,q5,q6,q7⟩:=HQ.out w' hw';go_simp;first|done|((try simp only[JB]);first|done|rfl)));try simp only[Act.put,Ya,Yb,Yc])
    refine QW.nil ?_;intro wq hwq;have XQ:=qaa hwq;clear hwq hlt HQ HD;have DQ:=qaa (DR.out.below XQ.out);have PQ:=qaa ((XQ.out.block P (Yd PR.out)).trans PR.out);have QQ:=qaa ((XQ.out.block Q (Yd QR.out)).trans QR.out);have OQ:=qaa (OR.out.below XQ.out);have XC:=qaa (bt KR.out XQ.out Yi);clear DR PR QR OR KR XQ;have g0:wq.cell? ⟨P,0,none⟩=some (.slice a6 L.length c6):=by rw[Ye _ _ _ _ _ _ PQ.out];rfl
    have Le:Hid (∀s:By,2≤s.length→isS Ts s i'=isT Ts 1 s i'):=fun s hs=>qbo Bp.out hs DQ.out.lt
    have PN:Hid (z.p=(tok Ts i').p):=by unfold Hid;rw[HZ.out]
    go_upto_if 49 with fail
    go_cut [10,11,12] (fun s10 s11 s12 wx=>∃e1 q1:Int,Hid (DpA wx W.heap.size rp g cv Ts i' e1 q1)∧Hid (Kept (fun k=>k=rp) wq wx)∧Hid (e1=0→q1=0∧(L.length=100→qas Ts i'=0))∧Hid (e1≠0→X=.bad e1 q1))
    case first=>
     as_aux_lemma=>
     by_cases hl:L.length=100
     ·have Oy:((L.length:Nat):Int)=100:=by omega
      have GV:=qaa hl;have I1:=qaa (qgt DQ.out qma);have hwl:(⟨qma.toArray⟩:ByteArray)=⟨#[108,101,116]⟩:=rfl;rw[hwl] at I1;clear hwl hl;go_upto_region 9 with(go_at_call 30;refine I1.out.mono ?_;rintro e wa ⟨rfl,x1⟩;have X1:=qaa x1;clear x1)
      clear I1 g0 Oy;have D1:=qaa (DQ.out.below X1.out);have I1:=qaa (qgt D1.out qd8);have hwl:(⟨qd8.toArray⟩:ByteArray)=⟨#[97,108,108,111,119]⟩:=rfl;rw[hwl] at I1;clear hwl;go_upto_region 10 with(go_at_call 30;refine I1.out.mono ?_;rintro e wb ⟨rfl,x1⟩;have X2:=qaa (bt X1.out x1 Yi);have D2:=qaa (D1.out.below x1);clear x1)
      clear I1 D1 X1;have I1:=qaa (qgt D2.out qg5);have hwl:(⟨qg5.toArray⟩:ByteArray)=⟨#[100,101,110,121]⟩:=rfl;rw[hwl] at I1;clear hwl;go_upto_region 11 with(go_at_call 30;refine I1.out.mono ?_;rintro e wc ⟨rfl,x1⟩;have X3:=qaa (bt X2.out x1 Yi);have D3:=qaa (D2.out.below x1);clear x1)
      clear I1 D2 X2;have E1:Hid (qas Ts i'=if isS Ts qma i'=true then 1 else if isS Ts qd8 i'=true then 2 else if isS Ts qg5 i'=true then 3 else 0):=by
       unfold Hid;rw[qit,Le.out qma (by decide),Le.out qd8 (by decide),Le.out qg5 (by decide)]
      clear Le;generalize isS Ts qma i'=b1 at *;generalize isS Ts qd8 i'=b2 at *;generalize isS Ts qg5 i'=b3 at *;go_cut [62] (fun s62 wx=>s62=.bool (b1||b2||b3)∧wx=wc)
      case first=>
       cases b1<;>cases b2<;>cases b3<;>
        (go_wp2
         go_meet;exact⟨rfl,rfl⟩)
      case rest=>
       obtain⟨rfl,rfl⟩:=hcut;rename World=>wc
       by_cases hb:(b1||b2||b3)=true
       ·have PO:Hid (X=.bad 92 z.p):=by
         have hne:qas Ts i'≠0:=by
          rw[E1.out];cases b1
          ·cases b2
           ·cases b3
            ·simp at hb
            ·simp
           ·simp
          ·simp
         unfold Hid;rw[Mw.out,if_pos ⟨hne,GV.out⟩,PN.out]
        have PP:=qaa (fun V (y:Below wc.heap.size wc V)=>qcg (D3.out.below y) 92 z.p);have ES:Hid (∀V,Below wc.heap.size wc V→(V.cell? ⟨rp,0,none⟩=some (.slice (some ⟨g,0,none⟩) Ts.length cv)∧V.cell? ⟨rp,1,none⟩=some (.int .i64 (i':Nat)))∧V.cell? ⟨g,i'*6+5,none⟩=some (.int .i64 z.p)):=fun V y=>by
         have h:=D3.out.below y;rw[HZ.out];exact⟨h.two,h.cells.2.2.2.2.2⟩
        have PU:(i':Int)<Ts.length:=by have:=D3.out.lt;omega
        clear E1 Mw;rw[hb];clear hb;go_upto_region 12 with fail
        refine qam (S:=fun V=>Below wc.heap.size wc V) 12 (by kernel_rfl) ?_;have Bb:Hid (Below wc.heap.size wc wc.drew):=Yj.drew;generalize wc.drew=wd at *;refine qac.tk 0 rfl 63 Bb.out (fun w' hw'=>by obtain⟨⟨q0,q1⟩,q7⟩:=ES.out w' hw';go_simp;first|done|rfl) ?_
        try simp only[Act.put,Ya,Yb,Yc]
        refine qac.tk 1 rfl 64 Bb.out (fun w' hw'=>by obtain⟨⟨q0,q1⟩,q7⟩:=ES.out w' hw';go_simp;first|done|rfl) ?_
        try simp only[Act.put,Ya,Yb,Yc]
        refine qac.tk 2 rfl 65 Bb.out (fun w' hw'=>by obtain⟨⟨q0,q1⟩,q7⟩:=ES.out w' hw';go_simp;first|done|rfl) ?_
        try simp only[Act.put,Ya,Yb,Yc]
        refine qac.tk 3 rfl 66 Bb.out (fun w' hw'=>by obtain⟨⟨q0,q1⟩,q7⟩:=ES.out w' hw';go_simp;first|done|rfl) ?_
        try simp only[Act.put,Ya,Yb,Yc]
        refine qac.tk 4 rfl 67 Bb.out (fun w' hw'=>by obtain⟨⟨q0,q1⟩,q7⟩:=ES.out w' hw';go_simp;first|done|rfl) ?_
        try simp only[Act.put,Ya,Yb,Yc]
        refine qac.tk 5 rfl 68 Bb.out (fun w' hw'=>by obtain⟨⟨q0,q1⟩,q7⟩:=ES.out w' hw';go_simp;first|done|rfl) ?_
        try simp only[Act.put,Ya,Yb,Yc]
        refine qac.tk 6 rfl 69 Bb.out (fun w' hw'=>by obtain⟨⟨q0,q1⟩,q7⟩:=ES.out w' hw';go_simp;first|done|rfl) ?_
        try simp only[Act.put,Ya,Yb,Yc]
        refine qac.tk 7 rfl 70 Bb.out (fun w' hw'=>by obtain⟨⟨q0,q1⟩,q7⟩:=ES.out w' hw';go_simp;first|done|rfl) ?_
        try simp only[Act.put,Ya,Yb,Yc]
        refine qac.tk 8 rfl 71 Bb.out (fun w' hw'=>by obtain⟨⟨q0,q1⟩,q7⟩:=ES.out w' hw';go_simp;first|done|rfl) ?_
        try simp only[Act.put,Ya,Yb,Yc]
        refine qac.tk 9 rfl 72 Bb.out (fun w' hw'=>by obtain⟨⟨q0,q1⟩,q7⟩:=ES.out w' hw';go_simp;first|done|rfl) ?_
        try simp only[Act.put,Ya,Yb,Yc]
        refine qac.tk 10 rfl 73 Bb.out (fun w' hw'=>by obtain⟨⟨q0,q1⟩,q7⟩:=ES.out w' hw';go_simp;first|done|rfl) ?_
        try simp only[Act.put,Ya,Yb,Yc]
        refine qac.tk 11 rfl 74 Bb.out (fun w' hw'=>by obtain⟨⟨q0,q1⟩,q7⟩:=ES.out w' hw';go_simp;first|done|rfl) ?_
        try simp only[Act.put,Ya,Yb,Yc]
        refine qac.lst rfl fun K hK=>?_
        go_simp;refine(PP.out wd Bb.out).mono ?_;rintro e wy ⟨rfl,d,k⟩;have DY:=qaa d;have KY:Hid (Kept (fun k=>k=rp) wq wy):=((Kept.of_below X3.out).trans (Kept.of_below Bb.out)).trans k;refine hK _ _ ?_;clear hK K d k;go_wp2;go_meet;exact⟨92,z.p,DY,KY,fun h=>absurd h (by decide),fun _=>PO.out⟩
       ·have hb0:(b1||b2||b3)=false:=by simpa using hb
        have HN:Hid (qas Ts i'=0):=by
         unfold Hid;rw[E1.out];cases b1
         ·cases b2
          ·cases b3
           ·simp
           ·simp at hb0
          ·simp at hb0
         ·simp at hb0
        have KY:Hid (Kept (fun k=>k=rp) wq wc):=Kept.of_below X3.out;rw[hb0];clear hb hb0;go_wp2;go_meet;exact⟨0,0,D3,KY,fun _=>⟨rfl,fun _=>HN.out⟩,fun h=>absurd rfl h⟩
     ·have Oy:¬((L.length:Nat):Int)=100:=by omega
      have HN:Hid (L.length=100→qas Ts i'=0):=fun h=>absurd h hl
      have KY:Hid (Kept (fun k=>k=rp) wq wq):=Kept.refl _ _;clear hl;go_wp2;go_meet;exact⟨0,0,DQ,KY,fun _=>⟨rfl,HN.out⟩,fun h=>absurd rfl h⟩
    case rest=>
     obtain⟨e1,q1,D1,K1,EM,HE2⟩:=hcut;rename World=>wx
     as_aux_lemma=>
     have JC:rp<w2.heap.size∧P<w2.heap.size∧Q<w2.heap.size∧g<w2.heap.size:=by have:=Bd.out;exact⟨by omega,by omega,by omega,by omega⟩
     have HRW:=qaa JC;have P1:=qaa ((K1.out.block P (Yd PQ.out) nP).trans PQ.out);have Q1:=qaa ((K1.out.block Q (Yd QQ.out) nQ).trans QQ.out);have O1:=qaa (OQ.out.frame K1.out (fun k hk=>by rw[hk];exact JC.1));have X1:=qaa (Below.low XC.out K1.out (fun k hk=>by rw[hk];have:=Bd.out;have:=HW1.out;omega));clear g0 Le JC PQ QQ OQ XC K1 DQ;go_upto_region 13 with fail
     refine qam (S:=fun V=>V.cell? ⟨P,0,none⟩=some (.slice a6 L.length c6)) 7 (by kernel_rfl) ?_;have Bb:Hid (Below wx.heap.size wx wx.drew):=Yj.drew;have RA:=qaa (D1.out.below Bb.out);have OA:=qaa (O1.out.below Bb.out);have PA:=qaa ((Bb.out.block P (Yd P1.out)).trans P1.out);have QA:=qaa ((Bb.out.block Q (Yd Q1.out)).trans Q1.out);have XA:=qaa (bt X1.out Bb.out Yi);clear Bb D1 O1 P1 Q1 X1;generalize wx.drew=wA at *;have SF:Hid (∀V:World,V.heap[P]? =some (.cells #[.slice a6 L.length c6] 36 (0,0))→V.cell? ⟨P,0,none⟩=some (.slice a6 L.length c6)):=fun V h1=>by rw[Ye _ _ _ _ _ _ h1];rfl
     have SA:=qaa (SF.out wA PA.out);have De:=HL;refine qac.tk 0 rfl 76 SA.out (fun w' hw'=>by go_simp;first|done|rfl) ?_
     try simp only[Act.put,Ya,Yb,Yc]
     refine qac.tk 1 rfl 77 SA.out (fun w' hw'=>by go_simp;first|done|rfl) ?_
     try simp only[Act.put,Ya,Yb,Yc]
     refine qac.tk 2 rfl 78 SA.out (fun w' hw'=>by go_simp;first|done|rfl) ?_
     try simp only[Act.put,Ya,Yb,Yc]
     have HI:=qaa (qol (f:=f2) Bp.out (by have:=Df.out;omega) (fun h=>(EM.out h).1) RA.out);refine qac.stq 3 rfl fun K hK=>?_
     go_simp;refine HI.out.mono ?_;rintro e wB ⟨v,j2,e2,q2,rfl,hj,d2,k2,hA,hB⟩;obtain⟨ik,inm,k,nm,tx,a3,n3,c3,a4,n4,c4,a5,n5,c5,a7,n7,c7,p,ip,rfl⟩:=hj;have hlo:∀k,k=rp→k<w2.heap.size:=fun k hk=>by rw[hk];exact HRW.out.1
     have RB:=qaa d2;have OB:=qaa (OA.out.frame k2 hlo);have PB:=qaa ((k2.block P (Yd PA.out) nP).trans PA.out);have QB:=qaa ((k2.block Q (Yd QA.out) nQ).trans QA.out);have XB:=qaa (Below.low XA.out k2 (fun k hk=>by rw[hk];have:=Bd.out;have:=HW1.out;omega));have EJ:Hid (∀k∈bk (.slice a6 L.length c6)++bs,k<wA.heap.size):=fun k hk=>(OA.out.lt k hk).2
     have SB:=qaa (SF.out wB PB.out);have EK:Hid (w2.heap.size≤wA.heap.size):=by have:=Yd PA.out;have:=Bd.out;unfold Hid;omega
     have PV:=qaa hA;have DV:=qaa hB;refine hK _ _ SB.out ?_;clear hK K HI d2 k2 hA hB hlo RA OA PA QA XA SA
     try simp only[Act.put,Ya,Yb,Yc]
     have XD:Hid (Below wB.heap.size wB (wB.alloc (.cells #[.int .i64 ik,.string inm,.int .i64 k,.string nm,.string tx,.slice a3 n3 c3,.slice a4 n4 c4,.slice a5 n5 c5,.slice a7 n7 c7,.int .i64 p,.int .i64 ip] 62))):=al Yj _;have RC:=qaa (RB.out.below XD.out);have OC:=qaa (OB.out.below XD.out);have PC:=qaa ((XD.out.block P (Yd PB.out)).trans PB.out);have QC:=qaa ((XD.out.block Q (Yd QB.out)).trans QB.out);have XC:=qaa (bt XB.out XD.out Yi);have SC:=qaa (SF.out (wB.alloc (.cells #[.int .i64 ik,.string inm,.int .i64 k,.string nm,.string tx,.slice a3 n3 c3,.slice a4 n4 c4,.slice a5 n5 c5,.slice a7 n7 c7,.int .i64 p,.int .i64 ip] 62)) PC.out);have BN:Hid (∀(j:Nat) (u:Value),[.int .i64 ik,.string inm,.int .i64 k,.string nm,.string tx,.slice a3 n3 c3,.slice a4 n4 c4,.slice a5 n5 c5,.slice a7 n7 c7,.int .i64 p,.int .i64 ip][j]? =some u→(wB.alloc (.cells #[.int .i64 ik,.string inm,.int .i64 k,.string nm,.string tx,.slice a3 n3 c3,.slice a4 n4 c4,.slice a5 n5 c5,.slice a7 n7 c7,.int .i64 p,.int .i64 ip] 62)).cell? ((⟨wB.heap.size,0,none⟩:Addr).add j)=some u):=World.news_of_block (Yh wB (.cells #[.int .i64 ik,.string inm,.int .i64 k,.string nm,.string tx,.slice a3 n3 c3,.slice a4 n4 c4,.slice a5 n5 c5,.slice a7 n7 c7,.int .i64 p,.int .i64 ip] 62));have DW:Hid (w2.heap.size≤(wB.alloc (.cells #[.int .i64 ik,.string inm,.int .i64 k,.string nm,.string tx,.slice a3 n3 c3,.slice a4 n4 c4,.slice a5 n5 c5,.slice a7 n7 c7,.int .i64 p,.int .i64 ip] 62)).heap.size):=by have:=Yd PC.out;have:=Bd.out;unfold Hid;omega
     obtain⟨ie,hie,hz0,hz1,hz2⟩:=info_parts Tryz.info62n;refine qac.stq 4 rfl fun K hK=>?_
     rw[if_pos (by rfl)];refine qj1 34 62 (.tmp 79) rfl #[.int .i64 ik,.string inm,.int .i64 k,.string nm,.string tx,.slice a3 n3 c3,.slice a4 n4 c4,.slice a5 n5 c5,.slice a7 n7 c7,.int .i64 p,.int .i64 ip] rfl ie _ Tryz.underlying34 hie hz0 (by rw[hz1];rfl) (by simp) (by simp) ?_;refine hK _ _ SC.out ?_;clear hK K RB OB PB QB XB SB
     try simp only[Act.put,Ya]
     refine qac.stq 5 rfl fun K hK=>?_
     refine step_append_lies _ (by rfl) (.tmp 77) (.tmp 80) 34 (by rfl) w2.heap.size 62 ie (.agg #[.int .i64 0,.string ⟨#[]⟩,.int .i64 0,.string ⟨#[]⟩,.string ⟨#[]⟩,.slice none 0 0,.slice none 0 0,.slice none 0 0,.slice none 0 0,.int .i64 0,.int .i64 0]) 11 176 Tryz.underlying34 hie hz0 hz1 hz2 rfl (by decide) _ L.length cs (by rfl) OC.out.row ⟨wB.heap.size,0,none⟩ 1 1 [.int .i64 ik,.string inm,.int .i64 k,.string nm,.string tx,.slice a3 n3 c3,.slice a4 n4 c4,.slice a5 n5 c5,.slice a7 n7 c7,.int .i64 p,.int .i64 ip] (by rfl) (by rfl) BN.out (by simp[Value.oneCell']) (by decide) (by have:=De.out;unfold maxLen;omega) (by have:=De.out;omega) DW.out _ rfl ?_;intro gD cD wD h1 h2 h3 h4;have OD:Hid (∀(c:IT) (vs:List Value) (cb:List Nat),[.int .i64 ik,.string inm,.int .i64 k,.string nm,.string tx,.slice a3 n3 c3,.slice a4 n4 c4,.slice a5 n5 c5,.slice a7 n7 c7,.int .i64 p,.int .i64 ip]=itV c vs→qaj wB wA.heap.size c.c vs cb→cb.Nodup→qcy wD w2.heap.size (L++[c]) (.slice (some ⟨gD,0,none⟩) (L.length+1) cD) (cs++itV c vs) (bs++cb)):=fun c vs cb hv hc hn=>qcy.push OC.out (hc.below XD.out) hn EK.out EJ.out rfl h2 (by rw[←hv];exact h1) h3
     have hkg:=qae h2;have hge:∀k,(Value.slice a6 L.length c6).ownBlock=some k→w2.heap.size≤k:=fun k hk=>(World.ownsRow.lt OC.out.row k hk).1
     have KG:Hid (Kept (fun k=>w2.heap.size≤k) (wB.alloc (.cells #[.int .i64 ik,.string inm,.int .i64 k,.string nm,.string tx,.slice a3 n3 c3,.slice a4 n4 c4,.slice a5 n5 c5,.slice a7 n7 c7,.int .i64 p,.int .i64 ip] 62)) wD):=hkg.mono hge;have hl2:¬w2.heap.size≤P∧¬w2.heap.size≤Q∧¬w2.heap.size≤rp∧¬w2.heap.size≤g:=by have:=HRW.out;exact⟨by omega,by omega,by omega,by omega⟩
     have PD:=qaa ((KG.out.block P (Yd PC.out) hl2.1).trans PC.out);have QD:=qaa ((KG.out.block Q (Yd QC.out) hl2.2.1).trans QC.out);have RD:=qaa (RC.out.kept KG.out hl2.2.2.1 hl2.2.2.2);have XE:=qaa (Below.low XC.out KG.out (fun k hk=>by have:=Bd.out;have:=HW1.out;omega));have SD:=qaa (SF.out wD PD.out);refine hK _ _ SD.out ?_;clear hK K h1 h2 h3 h4 hkg hge KG RC OC PC QC XC SC BN hl2 DW XD;refine qac.tk 6 rfl 82 SD.out (fun w' hw'=>by go_simp;first|done|rfl) ?_;have c8:=SD.out;have f8:=Yf wD P 0 _ _ PD.out;refine qac.lst rfl fun K hK=>?_
     go_simp;refine hK _ _ ?_;clear hK K c8 f8;have K9:Hid (Kept (fun k=>k=P) wD (wD.setCell ⟨P,0,none⟩ (.slice (some ⟨gD,0,none⟩) (L.length+1) cD))):=Kept.setCell (F:=fun k=>k=P) (p:=⟨P,0,none⟩) (Kept.refl _ _) rfl _;have hl2:Q≠P∧rp≠P∧g≠P∧P<w2.heap.size:=by have:=Bd.out;have:=HRW.out;exact⟨by omega,by omega,by omega,by omega⟩
     have P9:Hid ((wD.setCell ⟨P,0,none⟩ (.slice (some ⟨gD,0,none⟩) (L.length+1) cD)).heap[P]? =some (.cells #[.slice (some ⟨gD,0,none⟩) (L.length+1) cD] 36 (0,0))):=by
      have:=qab PD.out 0 (.slice (some ⟨gD,0,none⟩) (L.length+1) cD);simpa [Hid] using this
     have Q9:=qaa ((K9.out.block Q (Yd QD.out) hl2.1).trans QD.out);have R9:=qaa (RD.out.kept K9.out hl2.2.1 hl2.2.2.1);have O9:=qaa (fun c vs cb h1 h2 h3=>(OD.out c vs cb h1 h2 h3).frame K9.out (fun k hk=>by rw[hk];exact hl2.2.2.2));have X9:=qaa (Below.low XE.out K9.out (fun k hk=>by rw[hk];have:=Bd.out;have:=HW1.out;omega));clear hl2 PD QD RD XE SD OD K9 SF;generalize wD.setCell ⟨P,0,none⟩ (.slice (some ⟨gD,0,none⟩) (L.length+1) cD)=w9 at *;go_wp2;go_roundg (f2+1)
     case measure=>have:=HG.out;omega
     case rel=>
      by_cases h2:e2=0
      ·obtain⟨h1,hq2,c,vs,cb,hv,hc,hn,hok⟩:=PV.out h2
       subst h2;have hv':[.int .i64 ik,.string inm,.int .i64 k,.string nm,.string tx,.slice a3 n3 c3,.slice a4 n4 c4,.slice a5 n5 c5,.slice a7 n7 c7,.int .i64 p,.int .i64 ip]=itV c vs:=by
        have:=congrArg (fun v=>match v with|Value.agg a=>a.toList|_=>[]) hv;simpa using this
       have hcond:¬(qas Ts i'≠0∧L.length=100):=fun h=>h.1 ((EM.out h1).2 h.2)
       have hX2:X=qg7 Ts f2 (L++[c]) j2:=by
        rw[Mw.out,if_neg hcond,hok];rfl
       have hne:qas Ts i'≠0:=fun h=>by
        unfold qqi at hok;rw[if_pos h] at hok;cases hok
       have PX:L.length≠100:=fun h=>hcond ⟨hne,h⟩
       have hj:i'<j2∧j2≤Ts.length:=by
        unfold qqi at hok;rw[if_neg hne] at hok;exact(qfo f2 (qas Ts i') i' (by have:=Df.out;omega)).lt hok
       exact⟨L++[c],_,j2,0,q2,f2,trivial,⟨_,_,_,rfl⟩,P9,R9,X9,Q9,fun _=>⟨hq2,hX2,by rw[List.length_append,List.length_singleton];have:=De.out;omega,by have:=Df.out;omega,_,_,O9.out c vs cb hv' hc hn⟩,fun h=>absurd rfl h,by omega⟩
      ·have hX2:X=.bad e2 q2:=by
        by_cases h1:e1=0
        ·have hcond:¬(qas Ts i'≠0∧L.length=100):=fun h=>h.1 ((EM.out h1).2 h.2)
         rw[Mw.out,if_neg hcond,(DV.out h2).1 h1];rfl
        ·obtain⟨rfl,rfl⟩:=(DV.out h2).2 h1
         exact HE2.out h1
       exact⟨L,_,j2,e2,q2,f2,trivial,⟨_,_,_,rfl⟩,P9,R9,X9,Q9,fun h=>absurd h h2,fun _=>hX2,by omega⟩
  ·have EZ:(e==0)=false:=by simpa using he
   have HXB:=qaa (HB.out he);have PY:(e !=0)=true:=by simpa using he
   clear he HA HB;go_upto_region 6 with fail
   refine wp_region_quiet (C:=fun w'=>Below wr.heap.size wr w') (by kernel_rfl) (by kernel_rfl) HD.out ?_;refine QW.out (l:=_::_) ?_
   iterate 6 (refine QW.take (by rfl) ?_;apply Exists.intro;refine⟨fun w' hw'=>?_,?_⟩;(·(obtain⟨qe,⟨q0,q1⟩,q2,q3,q4,q5,q6,q7⟩:=HQ.out w' hw';go_simp;first|done|((try simp only[EZ]);first|done|rfl)));try simp only[Act.put,Ya,Yb,Yc])
   iterate 12 (refine QW.skip (by rfl) ?_;try simp only[Act.put,Ya,Yb,Yc])
   iterate 1 (refine QW.take (by rfl) ?_;apply Exists.intro;refine⟨fun w' hw'=>?_,?_⟩;(·(obtain⟨qe,⟨q0,q1⟩,q2,q3,q4,q5,q6,q7⟩:=HQ.out w' hw';go_simp;first|done|((try simp only[EZ]);first|done|rfl)));try simp only[Act.put,Ya,Yb,Yc])
   refine QW.nil ?_;intro wq hwq;have XQ:=qaa hwq;clear hwq hlt HQ HD;have DQ:=qaa (DR.out.below XQ.out);have QQ:=qaa ((XQ.out.block Q (Yd QR.out)).trans QR.out);have XC:=qaa (bt KR.out XQ.out Yi);have ge:=DQ.out.four.2.2.1;go_upto_region 15 with fail
   have gq:=DQ.out.four.2.2.2;have c2:wq.cell? ⟨Q,0,none⟩=some (.slice none 0 0):=by rw[Ye _ _ _ _ _ _ QQ.out];rfl
   have f2:=Yf wq Q 0 _ _ QQ.out;have EE:Hid (qdc s=.error (e,q)):=by rw[Bq.out,HXB.out];rfl
   have Q9:Hid ((wq.setCell ⟨Q,0,none⟩ (.slice none 0 0)).heap[Q]? =some (.cells #[.slice none 0 0] 36 (0,0))):=by
    have:=qab QQ.out 0 (.slice none 0 0);simpa [Hid] using this
   have KQ:Hid (Kept (fun k=>k=Q) wq (wq.setCell ⟨Q,0,none⟩ (.slice none 0 0))):=Kept.setCell (F:=fun k=>k=Q) (p:=⟨Q,0,none⟩) (Kept.refl _ _) rfl _;go_region;clear c2 f2 ge gq;go_wp2;have r0:((wq.setCell ⟨Q,0,none⟩ (.slice none 0 0)).drew).cell? ⟨Q,0,none⟩=some (.slice none 0 0):=by
    have h:((wq.setCell ⟨Q,0,none⟩ (.slice none 0 0)).drew).heap[Q]? =some (.cells #[.slice none 0 0] 36 (0,0)):=Q9.out;rw[Ye _ _ _ _ _ _ h];rfl
   refine Yg (by simp[results,Tryz.results12,go_sem,r0];try rfl) rfl ?_;exact⟨qf8.err EE.out rfl,Below.drew (Below.low XC.out KQ.out (fun k hk=>by have:=Bi.out;rw[hk];omega))⟩
theorem ql8 (s:By) (w:World):Calls Tryz.prog 12 #[.string ⟨s.toArray⟩] w fun e w'=>qf8 s w.heap.size e w'∧Below w.heap.size w w':=by
 cases h:qbb s with
 |error x=>exact qgj (c:=x.1) (q:=x.2) h w
 |ok Ts=>exact qj2 h w
def Fit (x:Int):Prop:= -9223372036854775808≤x∧x≤9223372036854775807
theorem qoy {n:Int} (h:(Lit.int .i64 n).wf=true):Fit n:=by
 simp only[Lit.wf,IntKind.min,IntKind.max,IntKind.signed,IntKind.bits,Bool.and_eq_true,decide_eq_true_eq,if_true] at h;unfold Fit;omega
def pkZ (c:Int) (n:Nat):Nat:=(if c<0 then -(c+1) else c).toNat%n
theorem qs9 (c:Int) {n:Nat} (h:0<n):pkZ c n<n:=Nat.mod_lt _ h
theorem qqt (c:Int) (n:Nat) (hc:Fit c) (hn:0<n) (hn2:n≤8589934592) (w:World):Calls Tryz.prog 17 #[.int .i64 c,.int .i64 n] w fun e w'=>e=.returned (.int .i64 (pkZ c n:Nat))∧w'=w:=by
 unfold Fit at hc;have hn0:¬(n:Int)=0:=by omega
 by_cases h:c<0
 ·have e:((pkZ c n:Nat):Int)=(-(c+1)).tmod n:=by
   unfold pkZ;rw[if_pos h,Int.natCast_emod,Int.toNat_of_nonneg (by omega),Int.tmod_eq_emod_of_nonneg (by omega)]
  rw[e];clear e;have w1:IntKind.i64.wrap (c+1)=c+1:=by simp[IntKind.wrap,IntKind.bits,IntKind.signed];omega
  have w2:IntKind.i64.wrap (-(c+1))= -(c+1):=by simp[IntKind.wrap,IntKind.bits,IntKind.signed];omega
  go_enter Tryz.func17,Tryz.ntmps17;rw[Int.neg_tmod];go_wp2;go_ret;exact⟨rfl,rfl⟩
 ·have e:((pkZ c n:Nat):Int)=c%n:=by
   unfold pkZ;rw[if_neg h,Int.natCast_emod,Int.toNat_of_nonneg (by omega)]
  rw[e];clear e;go_enter Tryz.func17,Tryz.ntmps17;go_wp2;go_ret;exact⟨rfl,rfl⟩
def lsP (s:By):List IT:=match qdc s with
 |.ok L=>L
 |.error _=>[]
def qta (T:ByteArray) (base:Nat) (e:Ending) (w:World):Prop:=∃ao cp cs bs,e=.returned (.tuple #[.agg #[.slice ao (lsP T.data.toList).length cp],.int .i64 (qs1 T.data.toList).1,.int .i64 (qs1 T.data.toList).2])∧qcy w base (lsP T.data.toList) (.slice ao (lsP T.data.toList).length cp) cs bs
theorem qf8.near {T:ByteArray} {base:Nat} {e:Ending} {w:World} (h:qf8 T.data.toList base e w):qta T base e w:=by
 unfold qta lsP qs1;unfold qf8 at h;cases hp:qdc T.data.toList with
 |error x=>
  rw[hp] at h;exact⟨none,0,[],[],h,qcy.nil w base⟩
 |ok L=>
  rw[hp] at h;obtain⟨v,cs,bs,h1,h3⟩:=h;obtain⟨ao,cp,hv,_⟩:=qad h3.row;subst hv;exact⟨ao,cp,cs,bs,h1,h3⟩
theorem ql9 (T:ByteArray) (w:World) (hev:qfx w.heap.size w):Calls Tryz.prog 11 #[.string T] w fun e w'=>qta T w.heap.size e w'∧Below w.heap.size w w':=by
 refine(qf9 T.data.toList w hev).mono ?_;rintro e w' ⟨h1,h2⟩;exact⟨h1.near,h2⟩
theorem qj3 (T:ByteArray) (w:World):Calls Tryz.prog 12 #[.string T] w fun e w'=>qta T w.heap.size e w'∧Below w.heap.size w w':=by
 refine(ql8 T.data.toList w).mono ?_;rintro e w' ⟨h1,h2⟩;exact⟨h1.near,h2⟩
end Go.Proofs.YtlmhofjiobmodaaGreatDoor

