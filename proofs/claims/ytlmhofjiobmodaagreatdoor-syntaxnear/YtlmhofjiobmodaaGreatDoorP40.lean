/-
  The document's list by its contract. Condition: the tokens are a scanner's.
-/
import Derived.Deep.DeepCutAuto
import Derived.Deep.CutBlock
import Derived.Test.YtlmhofjiobmodaaGreatDoorP39
set_option maxRecDepth 100000
set_option maxHeartbeats 16000000
namespace Go.Proofs.YtlmhofjiobmodaaGreatDoor
open Go.RowKit Go.Lib
theorem ql2 {w:World} {base rp g cap:Nat} {Ts:List Tk} {f i:Nat} (t:Tk) (hg:GdT Ts) (hlf:Ts.length-i<f) (h:DpA w base rp g cap Ts i 0 0):
 Calls Tryz.prog 184 #[.pointer (some ⟨rp,0,none⟩),.agg #[.int .i64 t.k,.string ⟨#[112,111,114,116]⟩,.int .i64 t.n,.int .i64 t.a,.int .i64 t.b,.int .i64 t.p]] w fun e' w'=>∃v i' e1 q1,e'=.returned v∧Jk v∧DpA w' base rp g cap Ts i' e1 q1∧Kept (fun k=>k=rp) w w'∧((e1=0∧q1=0∧∃c vs bs,v=.agg vs.toArray∧qaj w' w.heap.size c vs bs∧bs.Nodup∧qbp Ts f 4 (.mk 8 [] [] [] [] [] [] t.p) i=.ok c i')∨(e1≠0∧qbp Ts f 4 (.mk 8 [] [] [] [] [] [] t.p) i=.bad e1 q1)):=by
 obtain⟨x,hx⟩:∃x,x=qbp Ts f 4 (.mk 8 [] [] [] [] [] [] t.p) i:=⟨_,rfl⟩;have HX:=qaa hx;have Bp:=qaa hg;have GX:=qaa hlf;obtain⟨B,hB⟩:∃B,B=w.heap.size:=⟨_,rfl⟩;obtain⟨Q,hQ⟩:∃Q,Q=w.heap.size+1:=⟨_,rfl⟩;obtain⟨P,hP⟩:∃P,P=w.heap.size+1+1:=⟨_,rfl⟩;obtain⟨W,hW⟩:∃W,W=((w.alloc (.cells #[.int .i64 t.k,.string ⟨#[112,111,114,116]⟩,.int .i64 t.n,.int .i64 t.a,.int .i64 t.b,.int .i64 t.p] 49)).alloc (.cells #[.int .i64 0,.string ⟨#[]⟩,.string ⟨#[]⟩,.slice none 0 0,.slice none 0 0,.slice none 0 0,.slice none 0 0,.int .i64 0] 60)).alloc (.cells #[.int .i64 0,.string ⟨#[]⟩,.string ⟨#[]⟩,.slice none 0 0,.slice none 0 0,.slice none 0 0,.slice none 0 0,.int .i64 t.p] 60):=⟨_,rfl⟩;have X0:=qaa (show Below w.heap.size w W by rw[hW];exact al (al (al Yj _) _) _);have B0:=qaa (show W.heap[B]? =some (.cells #[.int .i64 t.k,.string ⟨#[112,111,114,116]⟩,.int .i64 t.n,.int .i64 t.a,.int .i64 t.b,.int .i64 t.p] 49 (0,0)) by
  rw[hW,hB];exact(heap_alloc_old _ _ (by simp;omega)).trans ((heap_alloc_old _ _ (by simp)).trans (Yh w _)))
 have Q0:=qaa (show W.heap[Q]? =some (.cells #[.int .i64 0,.string ⟨#[]⟩,.string ⟨#[]⟩,.slice none 0 0,.slice none 0 0,.slice none 0 0,.slice none 0 0,.int .i64 0] 60 (0,0)) by
  rw[hW,hQ,show w.heap.size+1=(w.alloc (.cells #[.int .i64 t.k,.string ⟨#[112,111,114,116]⟩,.int .i64 t.n,.int .i64 t.a,.int .i64 t.b,.int .i64 t.p] 49)).heap.size by simp];exact(heap_alloc_old _ _ (by simp)).trans (Yh _ _))
 have P0:=qaa (show W.heap[P]? =some (.cells #[.int .i64 0,.string ⟨#[]⟩,.string ⟨#[]⟩,.slice none 0 0,.slice none 0 0,.slice none 0 0,.slice none 0 0,.int .i64 t.p] 60 (0,0)) by
  rw[hW,hP,show w.heap.size+1+1=((w.alloc (.cells #[.int .i64 t.k,.string ⟨#[112,111,114,116]⟩,.int .i64 t.n,.int .i64 t.a,.int .i64 t.b,.int .i64 t.p] 49)).alloc (.cells #[.int .i64 0,.string ⟨#[]⟩,.string ⟨#[]⟩,.slice none 0 0,.slice none 0 0,.slice none 0 0,.slice none 0 0,.int .i64 0] 60)).heap.size by simp];exact Yh _ _)
 have Bd:Hid (B=w.heap.size∧Q=w.heap.size+1∧P=w.heap.size+2∧W.heap.size=w.heap.size+3):=⟨hB,hQ,hP,by rw[hW];simp⟩;have Bc:Hid (rp<B∧g<B):=by have:=h.gl;unfold Hid;omega
 have D0:=qaa (h.below X0.out);have T0:Hid (TcA W P P (.mk 0 [] [] [] [] [] [] t.p) (.slice none 0 0) (.slice none 0 0) (.slice none 0 0)):=⟨P0.out,qau _ _ _ _,qau _ _ _ _,qau _ _ _ _,rfl,Nat.le_refl _⟩;have K0:Hid (Kept (fun k=>k=rp) w W):=Kept.of_below X0.out;have g5:((w.alloc (.cells #[.int .i64 t.k,.string ⟨#[112,111,114,116]⟩,.int .i64 t.n,.int .i64 t.a,.int .i64 t.b,.int .i64 t.p] 49)).alloc (.cells #[.int .i64 0,.string ⟨#[]⟩,.string ⟨#[]⟩,.slice none 0 0,.slice none 0 0,.slice none 0 0,.slice none 0 0,.int .i64 0] 60)).cell? ⟨w.heap.size,5,none⟩=some (.int .i64 t.p):=by
  have hb:((w.alloc (.cells #[.int .i64 t.k,.string ⟨#[112,111,114,116]⟩,.int .i64 t.n,.int .i64 t.a,.int .i64 t.b,.int .i64 t.p] 49)).alloc (.cells #[.int .i64 0,.string ⟨#[]⟩,.string ⟨#[]⟩,.slice none 0 0,.slice none 0 0,.slice none 0 0,.slice none 0 0,.int .i64 0] 60)).heap[w.heap.size]? =some (.cells #[.int .i64 t.k,.string ⟨#[112,111,114,116]⟩,.int .i64 t.n,.int .i64 t.a,.int .i64 t.b,.int .i64 t.p] 49 (0,0)):=(heap_alloc_old _ _ (by simp)).trans (Yh w _);rw[Ye _ _ _ _ _ _ hb];rfl
 have L0:Hid (Lv x (fun l=>(qak Ts 1 wIn l).bind fun _ j=>(qak Ts 7 [123] j).bind fun _ l=>(qb3 Ts 4 (.mk 8 [] [] [] [] [] [] t.p) l).bind fun c' m=>qba Ts 4 f 1 c' m) i 0 0):=.inl ⟨rfl,rfl,hx⟩;clear hx hg hlf h;go_enter Tryz.func184,Tryz.ntmps184;go_upto_region 3 with fail
 rw[←hP,←hQ,←hW,←hB];clear hP hQ hW hB g5;have nQ:Q≠rp:=by have:=Bc.out;have:=Bd.out;omega
 have hlo:∀k,k=rp→k<P:=by have:=Bc.out;have:=Bd.out;intro k hk;omega
 have g1:W.cell? ⟨B,1,none⟩=some (.string ⟨#[112,111,114,116]⟩):=by rw[Ye _ _ _ _ _ _ B0.out];rfl
 go_upto_region 8 with fail
 clear g1 B0 P0;have HT:=qaa (qa8 (fun l hl=>qbo Bp.out (by decide) hl) D0.out L0.out);have hwn:(⟨wIn.toArray⟩:ByteArray)=⟨#[105,110]⟩:=rfl;rw[hwn] at HT;clear hwn;go_upto_region 9 with(go_at_call 57;refine HT.out.mono ?_;rintro e' w1 ⟨rfl,i1,e1,q1,d1,l1,h1,k1⟩;have D1:=qaa d1;have L1:=qaa l1;have H1:=qaa h1;have K1:=qaa k1;clear d1 l1 h1 k1)
 have T1:=qaa (T0.out.frame K1.out hlo);have Q1:=qaa ((K1.out.block Q (Yd Q0.out) nQ).trans Q0.out);have KA:=qaa (K0.out.trans K1.out);clear HT T0 Q0 K0 K1 D0 L0 X0;have HT:=qaa (qa8 (fun l hl=>qa4 Bp.out rfl hl) D1.out L1.out);go_upto_region 10 with(go_at_call 57;refine HT.out.mono ?_;rintro e' w2 ⟨rfl,i2,e2,q2,d2,l2,h2,k2⟩;have D2:=qaa d2;have L2:=qaa l2;have H2:=qaa h2;have K2:=qaa k2;clear d2 l2 h2 k2)
 have T2:=qaa (T1.out.frame K2.out hlo);have Q2:=qaa ((K2.out.block Q (Yd Q1.out) nQ).trans Q1.out);have KB:=qaa (KA.out.trans K2.out);have HI2:Hid (e2=0→i≤i2):=fun he=>by
  obtain⟨h0,h2⟩:=H2.out he;have:=(H1.out h0).2;omega
 have L3:Hid (Lv x (fun l=>if 0=32∧(tok Ts l).k=4 then .bad 92 (tok Ts l).p else(qb3 Ts 4 ((CT.mk 0 [] [] [] [] [] [] t.p).wk 8) l).bind fun c2 j=>qba Ts 4 f (0+1) c2 j) i2 e2 q2):=L2.out.map (by
  show _=if _ then _ else _
  rw[if_neg (fun h=>absurd h.1 (by decide))];rfl)
 clear HT T1 Q1 KA K2 D1 L1 L2 H1 H2;go_upto_block 1 with fail
 go_wp2;go_loopg [7,8] (f+1) (fun gg s7 s8 wr=>∃(many:Nat) (b:Bool) (c:CT) (v3 v4 v5:Value) (i':Nat) (e q:Int) (f':Nat),s7=.bool b∧s8=.int .i64 (many:Nat)∧Hid (TcA wr P P c v3 v4 v5)∧Hid (DpA wr base rp g cap Ts i' e q)∧Hid (Kept (fun k=>k=rp) w wr)∧Hid (wr.heap[Q]? =some (.cells #[.int .i64 0,.string ⟨#[]⟩,.string ⟨#[]⟩,.slice none 0 0,.slice none 0 0,.slice none 0 0,.slice none 0 0,.int .i64 0] 60 (0,0)))∧Hid (szC c≤many)∧Hid (many≤33)∧Hid (many≠0→c.k=8)∧Hid (b=true→Lv x (fun l=>if many=32∧(tok Ts l).k=4 then .bad 92 (tok Ts l).p else(qb3 Ts 4 (c.wk 8) l).bind fun c2 j=>qba Ts 4 f' (many+1) c2 j) i' e q∧(e=0→Ts.length-i'≤f'∧many≤32))∧Hid (b=false→Lv x (fun l=>(qak Ts 7 [125] l).bind fun _ j=>.ok c j) i' e q)∧f'<gg)
 case atStart=>
  exact⟨0,true,_,_,_,_,i2,e2,q2,f,rfl,rfl,T2,D2,KB,Q2,Nat.le_refl _,by unfold Hid;omega,fun h=>absurd rfl h,fun _=>⟨L3.out,fun he=>⟨by have:=GX.out;have:=HI2.out he;omega,by omega⟩⟩,fun h=>(by cases h),by omega⟩
 case round=>
  clear T2 D2 KB Q2 L3 HI2;obtain⟨many,b,c,v3,v4,v5,i',e,q,f',rfl,rfl,TR,DR,KR,QR,Dq,BM,Oz,Ef,Eg,hg⟩:=hrel;have HG:=qaa hg;clear hg;cases b with
  |false=>
   have LF:=qaa (Eg.out rfl);clear Ef Eg;go_upto_region 31 with fail
   have HT:=qaa (qa8 (fun l hl=>qa4 Bp.out rfl hl) DR.out LF.out);go_upto_region 32 with(go_at_call 57;refine HT.out.mono ?_;rintro e' w5 ⟨rfl,iZ,eZ,qZ,d5,l5,_,k5⟩;have D5:=qaa d5;have L5:=qaa l5;have K5:=qaa k5;clear d5 l5 k5)
   have T5:=qaa (TR.out.frame K5.out hlo);have Q5:=qaa ((K5.out.block Q (Yd QR.out) nQ).trans QR.out);have KA:=qaa (KR.out.trans K5.out);clear HT DR TR QR KR K5;obtain⟨a3,c3,a4,c4,a5,c5,hv3,hv4,hv5⟩:=T5.out.jk;subst hv3;subst hv4;subst hv5;obtain⟨q0,q1,q2,q3,q4,q5,q6,q7⟩:=ld8 T5.out.blk;obtain⟨⟨_,p0⟩,f0,⟨_,p1⟩,f1,⟨_,p2⟩,f2,⟨_,p3⟩,f3,⟨_,p4⟩,f4,⟨_,p5⟩,f5,⟨_,p6⟩,f6,⟨_,p7⟩,f7,Be,Bf⟩:=st8 Q5.out (.int .i64 c.k) (.string ⟨c.nm.toArray⟩) (.string ⟨c.tx.toArray⟩) (.slice a3 c.pre.length c3) (.slice a4 c.sp.length c4) (.slice a5 c.ns.length c5) (.slice none 0 0) (.int .i64 c.p);have Bg:=qaa Be;have KQ:=qaa Bf;clear Be Bf;go_wp2;clear q0 q1 q2 q3 q4 q5 q6 q7;clear p0 f0 p1 f1 p2 f2 p3 f3 p4 f4 p5 f5 p6 f6 p7 f7;generalize ((((((((w5.setCell ⟨Q,0,none⟩ (.int .i64 c.k)).setCell ⟨Q,1,none⟩ (.string ⟨c.nm.toArray⟩)).setCell ⟨Q,2,none⟩ (.string ⟨c.tx.toArray⟩)).setCell ⟨Q,3,none⟩ (.slice a3 c.pre.length c3)).setCell ⟨Q,4,none⟩ (.slice a4 c.sp.length c4)).setCell ⟨Q,5,none⟩ (.slice a5 c.ns.length c5)).setCell ⟨Q,6,none⟩ (.slice none 0 0)).setCell ⟨Q,7,none⟩ (.int .i64 c.p))=w9 at *;obtain⟨q0,q1,q2,q3,q4,q5,q6,q7⟩:=ld8 Bg.out;refine Yg (by simp[results,Tryz.results184,go_sem,q0,q1,q2,q3,q4,q5,q6,q7];try rfl) rfl ?_;have hrq:¬rp=Q:=by have:=Bc.out;have:=Bd.out;omega
   have Bv:¬g=Q:=by have:=Bc.out;have:=Bd.out;omega
   refine⟨_,iZ,eZ,qZ,rfl,⟨_,_,_,_,_,_,_,_,_,_,_,_,_,_,_,_,rfl⟩,D5.out.kept KQ.out hrq Bv,KA.out.fin KQ.out (by have:=Bd.out;omega),?_⟩;rcases L5.out with⟨h1,h2,h3⟩|⟨h1,h2⟩
   ·exact .inl ⟨h1,h2,c,_,_,rfl,T5.out.ct.frame KQ.out (fun k hk=>by have:=Bd.out;rw[hk];omega) (by have:=Bd.out;omega),T5.out.nodup,by rw[←HX.out];exact h3⟩
   ·exact .inr ⟨h1,by rw[←HX.out];exact h2⟩
  |true=>
   obtain⟨Er,Es⟩:=Ef.out rfl;have LT:=qaa Er;have BQ:=qaa Es;clear Ef Eg Er Es;have ge:=DR.out.four.2.2.1;by_cases he:e=0
   ·subst he
    obtain rfl:q=0:=by
     rcases LT.out with⟨_,h,_⟩|⟨h,_⟩
     ·exact h
     ·exact absurd rfl h
    have Df:=qaa (BQ.out rfl).1;have HM:=qaa (BQ.out rfl).2;clear BQ;go_upto_region 14 with fail
    clear ge;obtain⟨z,hz⟩:∃z,z=tok Ts i':=⟨_,rfl⟩;have HZ:=qaa hz;clear hz;go_cut [51] (fun s51 wx=>∃bb:Bool,s51=.bool bb∧Hid ((many=32∧z.k=4)↔bb=true)∧Hid (Below wr.heap.size wr wx))
    case first=>
     have HD:Hid (Below wr.heap.size wr wr.drew):=Yj.drew;have HQ:Hid (∀V,Below wr.heap.size wr V→(V.cell? ⟨rp,0,none⟩=some (.slice (some ⟨g,0,none⟩) Ts.length cap)∧V.cell? ⟨rp,1,none⟩=some (.int .i64 (i':Nat)))∧V.cell? ⟨g,i'*6,none⟩=some (.int .i64 z.k)∧V.cell? ⟨g,i'*6+1,none⟩=some (.string ⟨z.t.toArray⟩)∧V.cell? ⟨g,i'*6+2,none⟩=some (.int .i64 z.n)∧V.cell? ⟨g,i'*6+3,none⟩=some (.int .i64 z.a)∧V.cell? ⟨g,i'*6+4,none⟩=some (.int .i64 z.b)∧V.cell? ⟨g,i'*6+5,none⟩=some (.int .i64 z.p)):=fun V y=>by
      have h:=DR.out.below y;rw[HZ.out];exact⟨h.two,h.cells⟩
     have hlt:(i':Int)<Ts.length:=by have:=DR.out.lt;omega
     by_cases hm:many=32
     ·have hmb:((many:Int)==32)=true:=by simp;omega
      by_cases hk:z.k=4
      ·have hkb:(z.k==4)=true:=by simpa using hk
       refine wp_region_quiet (C:=fun w'=>Below wr.heap.size wr w') (by kernel_rfl) (by kernel_rfl) HD.out ?_;refine QW.out (l:=_::_) ?_
       iterate 17 (refine QW.take (by rfl) ?_;apply Exists.intro;refine⟨fun w' hw'=>?_,?_⟩;(·(obtain⟨⟨q0,q1⟩,q2,q3,q4,q5,q6,q7⟩:=HQ.out w' hw';go_simp;first|done|((try simp only[hmb,hkb]);first|done|rfl)));try simp only[Act.put,Ya,Yb,Yc])
       refine QW.nil ?_;intro wq hwq;have XQ:=qaa hwq;have H3:Hid (many=32∧z.k=4):=⟨hm,hk⟩;clear hwq hm hk;go_wp2;go_meet;exact⟨true,rfl,⟨fun _=>rfl,fun _=>H3.out⟩,XQ⟩
      ·have hkb:(z.k==4)=false:=by simpa using hk
       refine wp_region_quiet (C:=fun w'=>Below wr.heap.size wr w') (by kernel_rfl) (by kernel_rfl) HD.out ?_;refine QW.out (l:=_::_) ?_
       iterate 17 (refine QW.take (by rfl) ?_;apply Exists.intro;refine⟨fun w' hw'=>?_,?_⟩;(·(obtain⟨⟨q0,q1⟩,q2,q3,q4,q5,q6,q7⟩:=HQ.out w' hw';go_simp;first|done|((try simp only[hmb,hkb]);first|done|rfl)));try simp only[Act.put,Ya,Yb,Yc])
       refine QW.nil ?_;intro wq hwq;have XQ:=qaa hwq;have H3:Hid (¬(many=32∧z.k=4)):=fun h=>hk h.2
       clear hwq hm hk;go_wp2;go_meet;exact⟨false,rfl,⟨fun h=>absurd h H3.out,fun h=>by cases h⟩,XQ⟩
     ·have hmb:((many:Int)==32)=false:=by simp;omega
      refine wp_region_quiet (C:=fun w'=>Below wr.heap.size wr w') (by kernel_rfl) (by kernel_rfl) HD.out ?_;refine QW.out (l:=_::_) ?_
      iterate 3 (refine QW.take (by rfl) ?_;apply Exists.intro;refine⟨fun w' hw'=>?_,?_⟩;(·(skip;go_simp;first|done|((try simp only[hmb]);first|done|rfl)));try simp only[Act.put,Ya,Yb,Yc])
      iterate 13 (refine QW.skip (by rfl) ?_;try simp only[Act.put,Ya,Yb,Yc])
      iterate 1 (refine QW.take (by rfl) ?_;apply Exists.intro;refine⟨fun w' hw'=>?_,?_⟩;(·(skip;go_simp;first|done|((try simp only[hmb]);first|done|rfl)));try simp only[Act.put,Ya,Yb,Yc])
      refine QW.nil ?_;intro wq hwq;have XQ:=qaa hwq;have H3:Hid (¬(many=32∧z.k=4)):=fun h=>hm h.1
      clear hwq hm;go_wp2;go_meet;exact⟨false,rfl,⟨fun h=>absurd h H3.out,fun h=>by cases h⟩,XQ⟩
    case rest=>
     obtain⟨bb,Gh,DV,XC⟩:=hcut;subst Gh;have D3:=qaa (DR.out.below XC.out);have T3:=qaa (TR.out.below XC.out);have Q3:=qaa ((XC.out.block Q (Yd QR.out)).trans QR.out);have K3:=qaa (KR.out.trans (Kept.of_below XC.out));have Lf:=qaa DR.out.lt;clear DR TR QR KR XC;generalize wc=w3 at *;go_upto_if 51 with fail
     go_cut [64] (fun _ wx=>∃e3 q3,Hid (DpA wx base rp g cap Ts i' e3 q3)∧Hid (Lv x (fun l=>(qb3 Ts 4 (c.wk 8) l).bind fun c2 j=>qba Ts 4 f' (many+1) c2 j) i' e3 q3)∧Hid ((many=32→¬(tok Ts i').k=4)∨e3≠0)∧Hid (Kept (fun k=>k=rp) w3 wx))
     case first=>
      cases bb with
      |true=>
       obtain⟨hm,hk⟩:=DV.out.2 rfl;have HXB:Hid (x=.bad 92 z.p):=by
        rcases LT.out with⟨_,_,h3⟩|⟨h,_⟩
        ·unfold Hid
         rw[h3];show(if many=32∧(tok Ts i').k=4 then _ else _)=_;rw[if_pos ⟨hm,by rw[←HZ.out];exact hk⟩,←HZ.out]
        ·exact absurd rfl h
       clear hm hk DV;go_upto_region 15 with fail
       have HQ:Hid (∀V,Below w3.heap.size w3 V→(V.cell? ⟨rp,0,none⟩=some (.slice (some ⟨g,0,none⟩) Ts.length cap)∧V.cell? ⟨rp,1,none⟩=some (.int .i64 (i':Nat)))∧V.cell? ⟨g,i'*6,none⟩=some (.int .i64 z.k)∧V.cell? ⟨g,i'*6+1,none⟩=some (.string ⟨z.t.toArray⟩)∧V.cell? ⟨g,i'*6+2,none⟩=some (.int .i64 z.n)∧V.cell? ⟨g,i'*6+3,none⟩=some (.int .i64 z.a)∧V.cell? ⟨g,i'*6+4,none⟩=some (.int .i64 z.b)∧V.cell? ⟨g,i'*6+5,none⟩=some (.int .i64 z.p)):=fun V y=>by
        have h:=D3.out.below y;rw[HZ.out];exact⟨h.two,h.cells⟩
       have hlt:(i':Int)<Ts.length:=by have:=D3.out.lt;omega
       refine qam (S:=fun V=>Below w3.heap.size w3 V) 12 (by kernel_rfl) ?_;have Bb:Hid (Below w3.heap.size w3 w3.drew):=Yj.drew;generalize w3.drew=vd at *;refine qac.tk 0 rfl 52 Bb.out (fun a b=>by obtain⟨⟨_,_⟩,_,_,_,_,_,_⟩:=HQ.out a b;go_simp;first|done|rfl) ?_
       try simp only[Act.put,Ya,Yb,Yc]
       refine qac.tk 1 rfl 53 Bb.out (fun a b=>by obtain⟨⟨_,_⟩,_,_,_,_,_,_⟩:=HQ.out a b;go_simp;first|done|rfl) ?_
       try simp only[Act.put,Ya,Yb,Yc]
       refine qac.tk 2 rfl 54 Bb.out (fun a b=>by obtain⟨⟨_,_⟩,_,_,_,_,_,_⟩:=HQ.out a b;go_simp;first|done|rfl) ?_
       try simp only[Act.put,Ya,Yb,Yc]
       refine qac.tk 3 rfl 55 Bb.out (fun a b=>by obtain⟨⟨_,_⟩,_,_,_,_,_,_⟩:=HQ.out a b;go_simp;first|done|rfl) ?_
       try simp only[Act.put,Ya,Yb,Yc]
       refine qac.tk 4 rfl 56 Bb.out (fun a b=>by obtain⟨⟨_,_⟩,_,_,_,_,_,_⟩:=HQ.out a b;go_simp;first|done|rfl) ?_
       try simp only[Act.put,Ya,Yb,Yc]
       refine qac.tk 5 rfl 57 Bb.out (fun a b=>by obtain⟨⟨_,_⟩,_,_,_,_,_,_⟩:=HQ.out a b;go_simp;first|done|rfl) ?_
       try simp only[Act.put,Ya,Yb,Yc]
       refine qac.tk 6 rfl 58 Bb.out (fun a b=>by obtain⟨⟨_,_⟩,_,_,_,_,_,_⟩:=HQ.out a b;go_simp;first|done|rfl) ?_
       try simp only[Act.put,Ya,Yb,Yc]
       refine qac.tk 7 rfl 59 Bb.out (fun a b=>by obtain⟨⟨_,_⟩,_,_,_,_,_,_⟩:=HQ.out a b;go_simp;first|done|rfl) ?_
       try simp only[Act.put,Ya,Yb,Yc]
       refine qac.tk 8 rfl 60 Bb.out (fun a b=>by obtain⟨⟨_,_⟩,_,_,_,_,_,_⟩:=HQ.out a b;go_simp;first|done|rfl) ?_
       try simp only[Act.put,Ya,Yb,Yc]
       refine qac.tk 9 rfl 61 Bb.out (fun a b=>by obtain⟨⟨_,_⟩,_,_,_,_,_,_⟩:=HQ.out a b;go_simp;first|done|rfl) ?_
       try simp only[Act.put,Ya,Yb,Yc]
       refine qac.tk 10 rfl 62 Bb.out (fun a b=>by obtain⟨⟨_,_⟩,_,_,_,_,_,_⟩:=HQ.out a b;go_simp;first|done|rfl) ?_
       try simp only[Act.put,Ya,Yb,Yc]
       refine qac.tk 11 rfl 63 Bb.out (fun a b=>by obtain⟨⟨_,_⟩,_,_,_,_,_,_⟩:=HQ.out a b;go_simp;first|done|rfl) ?_
       try simp only[Act.put,Ya,Yb,Yc]
       have HC:=qaa (qcg (D3.out.below Bb.out) 92 z.p);refine qac.lst rfl fun K hK=>?_
       go_simp;refine HC.out.mono ?_;rintro e' w4 ⟨rfl,d4,k4⟩;have D4:=qaa d4;have K4:Hid (Kept (fun k=>k=rp) w3 w4):=(Kept.of_below Bb.out).trans k4;refine hK _ _ ?_;clear hK K hlt HQ d4 k4 Bb HC
       try go_wp2
       go_meet;exact⟨92,z.p,D4,.inr ⟨by decide,HXB.out⟩,.inr (by decide),K4⟩
      |false=>
       have HXB:Hid (x=(qb3 Ts 4 (c.wk 8) i').bind fun c2 j=>qba Ts 4 f' (many+1) c2 j):=by
        rcases LT.out with⟨_,_,h3⟩|⟨h,_⟩
        ·unfold Hid
         rw[h3];show(if many=32∧(tok Ts i').k=4 then _ else _)=_;rw[if_neg (fun h=>by have:=DV.out.1 ⟨h.1,by rw[HZ.out];exact h.2⟩;cases this)]
        ·exact absurd rfl h
       have Ew:Hid (many=32→¬(tok Ts i').k=4):=fun h1 h2=>by have:=DV.out.1 ⟨h1,by rw[HZ.out];exact h2⟩;cases this
       go_wp2;go_meet;exact⟨0,0,D3,.inl ⟨rfl,rfl,HXB.out⟩,.inl Ew.out,Kept.refl _ _⟩
     case rest=>
      obtain⟨e3,q3,D4,L4,Ew,K4⟩:=hcut;have T4:=qaa (T3.out.frame K4.out hlo);have Q4:=qaa ((K4.out.block Q (Yd Q3.out) nQ).trans Q3.out);have KA:=qaa (K3.out.trans K4.out);clear D3 T3 Q3 K3 K4 LT DV HZ;generalize wc=w4 at *;have L5:Hid (Lv x (fun l=>(qa9 Ts 4 l).bind fun t j=>(qhc Ts 4 (c.wk 8) t j).bind fun c2 j=>qba Ts 4 f' (many+1) c2 j) i' e3 q3):=L4.out.map (by rw[qcf,PR.assoc]);have HT:=qaa (qcl (by decide) D4.out L5.out);go_upto_region 17 with(go_at_call 56;refine HT.out.mono ?_;rintro e' w6 ⟨z,i7,e7,q7,rfl,d6,l6,h6,k6⟩;have D6:=qaa d6;have L7:=qaa l6;have H6:=qaa h6;have K6:=qaa k6;clear d6 l6 h6 k6)
      have X7:Hid (Below w6.heap.size w6 (w6.alloc (.cells #[.int .i64 z.k,.string ⟨z.t.toArray⟩,.int .i64 z.n,.int .i64 z.a,.int .i64 z.b,.int .i64 z.p] 49))):=al Yj _;have PB:=qaa (Yh w6 (.cells #[.int .i64 z.k,.string ⟨z.t.toArray⟩,.int .i64 z.n,.int .i64 z.a,.int .i64 z.b,.int .i64 z.p] 49));have T6:=qaa (T4.out.frame K6.out hlo);have Q6:=qaa ((K6.out.block Q (Yd Q4.out) nQ).trans Q4.out);have KB:=qaa (KA.out.trans K6.out);obtain⟨PT,hPT⟩:∃PT,PT=w6.heap.size:=⟨_,rfl⟩;rw[←hPT] at PB;rw[←hPT];have nPT:PT≠P:=by have:=Yd T6.out.blk;omega
      have D7:=qaa (D6.out.below X7.out);have T7:=qaa (T6.out.below X7.out);have Q7:=qaa ((X7.out.block Q (Yd Q6.out)).trans Q6.out);have K7:=qaa (KB.out.trans (Kept.of_below X7.out));clear hPT D6 T6 Q6 KB X7 HT D4 T4 Q4 KA L4 L5 K6;generalize w6.alloc (.cells #[.int .i64 z.k,.string ⟨z.t.toArray⟩,.int .i64 z.n,.int .i64 z.a,.int .i64 z.b,.int .i64 z.p] 49)=w7 at *;have GY:Hid (e7=0→i'+1≤i7∧many+1≤32):=fun he=>by
       obtain⟨h1,h2,_,h4⟩:=H6.out he;refine⟨by omega,?_⟩;rcases Ew.out with h5|h5
       ·have:=HM.out
        have:many≠32:=fun h=>h5 h h4
        omega
       ·exact absurd h1 h5
      clear H6 Ew;have g0:w7.cell? ⟨P,0,none⟩=some (.int .i64 c.k):=by rw[Ye _ _ _ _ _ _ T7.out.blk];rfl
      have f0:=Yf w7 P 0 _ _ T7.out.blk;go_upto_region 19 with fail
      clear g0 f0;have K8:Hid (Kept (fun k=>k=P) w7 (w7.setCell ⟨P,0,none⟩ (.int .i64 8))):=Kept.setCell (F:=fun k=>k=P) (p:=⟨P,0,none⟩) (Kept.refl _ _) rfl _;have T8:Hid (TcA (w7.setCell ⟨P,0,none⟩ (.int .i64 8)) P P (c.wk 8) v3 v4 v5):=T7.out.setK 8;have hl2:Q≠P∧rp≠P∧g≠P:=by have:=Bc.out;have:=Bd.out;exact⟨by omega,by omega,by omega⟩
      have Q8:=qaa ((K8.out.block Q (Yd Q7.out) hl2.1).trans Q7.out);have D8:=qaa (D7.out.kept K8.out hl2.2.1 hl2.2.2);have P8:=qaa ((K8.out.block PT (Yd PB.out) nPT).trans PB.out);have Gi:Hid (Kept (fun k=>k=rp) w (w7.setCell ⟨P,0,none⟩ (.int .i64 8))):=K7.out.fin K8.out (by have:=Bd.out;omega);clear K8 T7 Q7 D7 PB K7;generalize w7.setCell ⟨P,0,none⟩ (.int .i64 8)=w8 at *;have g2:w8.cell? ⟨PT,2,none⟩=some (.int .i64 z.n):=by rw[Ye _ _ _ _ _ _ P8.out];rfl
      obtain⟨zn,hzn⟩:∃zn,zn=z.n:=⟨_,rfl⟩;rw[←hzn] at g2;have L8:Hid (Lv x (fun l=>if isT Ts 7 [45] l=true then(fun l=>(qa9 Ts 4 l).bind fun u l=>qba Ts 4 f' (many+1) (CT.mk (c.wk 8).k (c.wk 8).nm (c.wk 8).tx (c.wk 8).pre ((c.wk 8).sp++[(zn,u.n)]) (c.wk 8).ns (c.wk 8).kids (c.wk 8).p) l) (l+1) else(fun l=>qba Ts 4 f' (many+1) (CT.mk (c.wk 8).k (c.wk 8).nm (c.wk 8).tx (c.wk 8).pre ((c.wk 8).sp++[(zn,zn)]) (c.wk 8).ns (c.wk 8).kids (c.wk 8).p) l) l) i7 e7 q7):=L7.out.map (by rw[qt1,hzn]);clear hzn L7;have X9:Hid (Below w8.heap.size w8 (w8.alloc (.cells #[.int .i64 zn,.int .i64 zn] 68))):=al Yj _;have R9:=qaa (Yh w8 (.cells #[.int .i64 zn,.int .i64 zn] 68));go_upto_region 20 with fail
      clear g2;obtain⟨R,hR⟩:∃R,R=w8.heap.size:=⟨_,rfl⟩;rw[←hR] at R9;rw[←hR];have E9:Hid (P<R):=by have:=Yd T8.out.blk;unfold Hid;omega
      have Lh:Hid ((∀k,v3.ownBlock=some k→k≠R)∧(∀k,v4.ownBlock=some k→k≠R)∧∀k,v5.ownBlock=some k→k≠R):=⟨fun k hk=>by have:=(World.ownsRow.lt T8.out.o3 k hk).2;omega,fun k hk=>by have:=(World.ownsRow.lt T8.out.o4 k hk).2;omega,fun k hk=>by have:=(World.ownsRow.lt T8.out.o5 k hk).2;omega⟩;have D9:=qaa (D8.out.below X9.out);have T9:=qaa (T8.out.below X9.out);have Q9:=qaa ((X9.out.block Q (Yd Q8.out)).trans Q8.out);have K9:=qaa (Gi.out.trans (Kept.of_below X9.out));clear hR D8 T8 Q8 Gi P8 X9;generalize w8.alloc (.cells #[.int .i64 zn,.int .i64 zn] 68)=w9 at *;have nR:R≠rp:=by have:=Bc.out;have:=Bd.out;have:=E9.out;omega
      have Dm:=qaa (qcv (y1:=fun l=>(qa9 Ts 4 l).bind fun u l=>qba Ts 4 f' (many+1) (CT.mk (c.wk 8).k (c.wk 8).nm (c.wk 8).tx (c.wk 8).pre ((c.wk 8).sp++[(zn,u.n)]) (c.wk 8).ns (c.wk 8).kids (c.wk 8).p) l) (y2:=fun l=>qba Ts 4 f' (many+1) (CT.mk (c.wk 8).k (c.wk 8).nm (c.wk 8).tx (c.wk 8).pre ((c.wk 8).sp++[(zn,zn)]) (c.wk 8).ns (c.wk 8).kids (c.wk 8).p) l) (fun l hl=>qa4 Bp.out rfl hl) D9.out L8.out);go_upto_region 21 with(go_at_call 85;refine Dm.out.mono ?_;rintro e' wE ⟨bm,iE,eE,qE,rfl,dE,h1,h2,kE⟩;have DE:=qaa dE;have H1:=qaa h1;have H2:=qaa h2;have KE:=qaa kE;clear dE h1 h2 kE)
      have TE:=qaa (T9.out.frame KE.out hlo);have QE:=qaa ((KE.out.block Q (Yd Q9.out) nQ).trans Q9.out);have RE:=qaa ((KE.out.block R (Yd R9.out) nR).trans R9.out);have KF:=qaa (K9.out.trans KE.out);clear Dm D9 T9 Q9 R9 K9 KE L8;go_upto_if 77 with fail
      go_cut [80] (fun _ wx=>∃(m:Int) (iG:Nat) (eG qG:Int),Hid (wx.heap[R]? =some (.cells #[.int .i64 zn,.int .i64 m] 68 (0,0)))∧Hid (DpA wx base rp g cap Ts iG eG qG)∧Hid (Lv x (fun j=>qba Ts 4 f' (many+1) (CT.mk (c.wk 8).k (c.wk 8).nm (c.wk 8).tx (c.wk 8).pre ((c.wk 8).sp++[(zn,m)]) (c.wk 8).ns (c.wk 8).kids (c.wk 8).p) j) iG eG qG)∧Hid (eG=0→i'+1≤iG∧many+1≤32)∧Hid (TcA wx P P (c.wk 8) v3 v4 v5)∧Hid (wx.heap[Q]? =some (.cells #[.int .i64 0,.string ⟨#[]⟩,.string ⟨#[]⟩,.slice none 0 0,.slice none 0 0,.slice none 0 0,.slice none 0 0,.int .i64 0] 60 (0,0)))∧Hid (Kept (fun k=>k=rp) w wx))
      case first=>
       cases bm with
       |false=>
        obtain⟨h3,O3,h4⟩:=H2.out rfl;have LG:=qaa h4;have Ni:Hid (eE=0→i'+1≤iE∧many+1≤32):=fun he=>by
         rcases h4 with⟨_,_,_⟩|⟨h5,_⟩
         ·have Mx:e7=0:=O3 he
          have:=GY.out Mx;exact⟨by omega,this.2⟩
         ·exact absurd he h5
        clear h3 O3 h4 H1 H2;go_wp2;go_meet;exact⟨zn,iE,eE,qE,RE,DE,LG,Ni,TE,QE,KF⟩
       |true=>
        obtain⟨Mx,h1,h2,h3,h4,h5⟩:=H1.out rfl;have LK:Hid (Lv x (fun l=>(qa9 Ts 4 l).bind fun u l=>qba Ts 4 f' (many+1) (CT.mk (c.wk 8).k (c.wk 8).nm (c.wk 8).tx (c.wk 8).pre ((c.wk 8).sp++[(zn,u.n)]) (c.wk 8).ns (c.wk 8).kids (c.wk 8).p) l) iE eE qE):=.inl ⟨h1,h2,h5⟩;have Ra:Hid (i'+1≤iE∧many+1≤32):=by
         have:=GY.out Mx;exact⟨by omega,this.2⟩
        clear Mx h1 h2 h3 h4 h5 H1 H2;have HT:=qaa (qcl (by decide) DE.out LK.out);have hf:=fld2;go_wp2_with (fail);refine HT.out.mono ?_;rintro e' wF ⟨u,iG,eG,qG,rfl,dG,lG,h6,kG⟩;have DG:=qaa dG;have LG:=qaa lG;have H6:=qaa h6;have TG:=qaa (TE.out.frame kG hlo);have QG:=qaa ((kG.block Q (Yd QE.out) nQ).trans QE.out);have RG:=qaa ((kG.block R (Yd RE.out) nR).trans RE.out);have KG:=qaa (KF.out.trans kG);clear dG lG h6 kG HT DE TE QE RE KF LK;have c7:wF.cell? ⟨R,1,none⟩=some (.int .i64 zn):=by rw[Ye _ _ _ _ _ _ RG.out];rfl
        have f7:=Yf wF R 1 _ _ RG.out;have RH:Hid ((wF.setCell ⟨R,1,none⟩ (.int .i64 u.n)).heap[R]? =some (.cells #[.int .i64 zn,.int .i64 u.n] 68 (0,0))):=by
         have:=qab RG.out 1 (.int .i64 u.n);simpa [Hid] using this
        have KH:Hid (Kept (fun k=>k=R) wF (wF.setCell ⟨R,1,none⟩ (.int .i64 u.n))):=Kept.setCell (F:=fun k=>k=R) (p:=⟨R,1,none⟩) (Kept.refl _ _) rfl _;go_wp2;clear c7 f7 hf;generalize wF.setCell ⟨R,1,none⟩ (.int .i64 u.n)=wH at *;have hl5:Q≠R∧rp≠R∧g≠R:=by have:=Bc.out;have:=Bd.out;have:=E9.out;exact⟨by omega,by omega,by omega⟩
        have QH:=qaa ((KH.out.block Q (Yd QG.out) hl5.1).trans QG.out);have DH:=qaa (DG.out.kept KH.out hl5.2.1 hl5.2.2);have TH:Hid (TcA wH P P (c.wk 8) v3 v4 v5):=TcA.aside TG.out KH.out (by intro e;have:=E9.out;omega) Lh.out.1 Lh.out.2.1 Lh.out.2.2;have KK:Hid (Kept (fun k=>k=rp) w wH):=KG.out.fin KH.out (by have:=Bd.out;have:=E9.out;omega);have Ni:Hid (eG=0→i'+1≤iG∧many+1≤32):=fun he=>by
         have h1:=H6.out he;have:=Ra.out;exact⟨by omega,this.2⟩
        clear hl5 H6;go_meet;exact⟨u.n,iG,eG,qG,RH,DH,LG,Ni,TH,QH,KK⟩
      case rest=>
       clear RE DE TE QE KF H1 H2 GY;obtain⟨m,i7,e7,q7,P8,D8,L8,GY,T8,Q8,Gi⟩:=hcut;generalize wc=w8 at *;obtain⟨ie,hie,hz0,hz1,hz2⟩:=info_parts Tryz.info68n;obtain⟨a3,c3,a4,c4,a5,c5,hv3,hv4,hv5⟩:=T8.out.jk;subst hv3;subst hv4;subst hv5;have g0:w8.cell? ⟨P,4,none⟩=some (.slice a4 (c.wk 8).sp.length c4):=by rw[Ye _ _ _ _ _ _ T8.out.blk];rfl
       have g1:w8.cell? ⟨R,0,none⟩=some (.int .i64 zn):=by rw[Ye _ _ _ _ _ _ P8.out];rfl
       have g2:w8.cell? ⟨R,1,none⟩=some (.int .i64 m):=by rw[Ye _ _ _ _ _ _ P8.out];rfl
       have XC:Hid (Below w8.heap.size w8 (w8.alloc (.cells #[.int .i64 zn,.int .i64 m] 68))):=al Yj _;have TC:=qaa (T8.out.below XC.out);have DC:=qaa (D8.out.below XC.out);have QC:=qaa ((XC.out.block Q (Yd Q8.out)).trans Q8.out);have KC:=qaa (Gi.out.trans (Kept.of_below XC.out));have BN:=qaa (World.news_of_block (Yh w8 (.cells #[.int .i64 zn,.int .i64 m] 68)));have DW:Hid (P≤(w8.alloc (.cells #[.int .i64 zn,.int .i64 m] 68)).heap.size):=by have:=Yd TC.out.blk;unfold Hid;omega
       have Js:Hid ((c.wk 8).sp.length≤64):=by have:=Dq.out;have:=BM.out;unfold szC at *;show c.sp.length≤64;omega
       go_upto_region 30 with(at_builtin;refine wpList_append_lies _ rfl (.tmp 83) (.tmp 85) 57 rfl P 68 ie (.agg #[.int .i64 0,.int .i64 0]) 2 16 Tryz.underlying57 hie hz0 hz1 hz2 rfl (by decide) _ (c.wk 8).sp.length (prC (c.wk 8).sp) rfl TC.out.o4 ⟨w8.heap.size,0,none⟩ 1 1 [.int .i64 zn,.int .i64 m] rfl rfl BN.out (by simp[Value.oneCell']) (by decide) (by have:=Js.out;unfold maxLen;omega) (by have:=Js.out;omega) DW.out _ rfl ?_;intro gD cD wD h1 h2 h3 h4;have TD:=qaa (TcA.push4 TC.out h2 h1);have KG:=qaa (qc4 TC.out.o4 h2 (Nat.le_refl P) (.slice (some ⟨gD,0,none⟩) ((c.wk 8).sp.length+1) cD) 4);have BD:=(qae h2).block P (Yd TC.out.blk) (fun hf=>by obtain⟨cs',h5⟩:=qaw TC.out.o4 P hf;exact qar TC.out.blk h5 (by decide) rfl);have Gj:=BD.trans TC.out.blk;have c7:wD.cell? ⟨P,4,none⟩=some (.slice a4 (c.wk 8).sp.length c4):=(by rw[Ye _ _ _ _ _ _ Gj];rfl);have f7:=Yf wD P 4 _ _ Gj;clear h1 h2 h3 h4 BD Gj)
       clear c7 f7 g0 g1 g2;have hl3:¬P≤Q∧¬P≤rp∧¬P≤g:=by have:=Bc.out;have:=Bd.out;exact⟨by omega,by omega,by omega⟩
       have QD:=qaa ((KG.out.block Q (Yd QC.out) hl3.1).trans QC.out);have DD:=qaa (DC.out.kept KG.out hl3.2.1 hl3.2.2);have KD:Hid (Kept (fun k=>k=rp) w (wD.setCell ⟨P,4,none⟩ (.slice (some ⟨gD,0,none⟩) ((c.wk 8).sp.length+1) cD))):=Kept.trans_new KC.out KG.out (fun k h1 h2=>absurd h2 (by have:=Bd.out;omega));clear hl3 QC DC KC KG TC BN DW XC T8 D8 Q8 P8 Gi;generalize wD.setCell ⟨P,4,none⟩ (.slice (some ⟨gD,0,none⟩) ((c.wk 8).sp.length+1) cD)=w9 at *;have LD:=qaa L8.out;obtain⟨f2,hf2⟩:∃f2,f'=f2+1:=⟨f'-1,by have:=Df.out;have:=Lf.out;omega⟩;subst hf2;have LM:Hid (Lv x (fun l=>if isT Ts 7 [44] l=true then(fun l=>if (many+1)=32∧(tok Ts l).k=4 then .bad 92 (tok Ts l).p else(qb3 Ts 4 ((CT.mk (c.wk 8).k (c.wk 8).nm (c.wk 8).tx (c.wk 8).pre ((c.wk 8).sp++[(zn,m)]) (c.wk 8).ns (c.wk 8).kids (c.wk 8).p).wk 8) l).bind fun c2 j=>qba Ts 4 f2 ((many+1)+1) c2 j) (l+1) else(fun l=>(qak Ts 7 [125] l).bind fun _ j=>.ok (CT.mk (c.wk 8).k (c.wk 8).nm (c.wk 8).tx (c.wk 8).pre ((c.wk 8).sp++[(zn,m)]) (c.wk 8).ns (c.wk 8).kids (c.wk 8).p) j) l) i7 e7 q7):=LD.out;have Dm:=qaa (qcv (y1:=(fun l=>if (many+1)=32∧(tok Ts l).k=4 then .bad 92 (tok Ts l).p else(qb3 Ts 4 ((CT.mk (c.wk 8).k (c.wk 8).nm (c.wk 8).tx (c.wk 8).pre ((c.wk 8).sp++[(zn,m)]) (c.wk 8).ns (c.wk 8).kids (c.wk 8).p).wk 8) l).bind fun c2 j=>qba Ts 4 f2 ((many+1)+1) c2 j)) (y2:=(fun l=>(qak Ts 7 [125] l).bind fun _ j=>.ok (CT.mk (c.wk 8).k (c.wk 8).nm (c.wk 8).tx (c.wk 8).pre ((c.wk 8).sp++[(zn,m)]) (c.wk 8).ns (c.wk 8).kids (c.wk 8).p) j)) (fun l hl=>qa4 Bp.out rfl hl) DD.out LM.out);have fw:IntKind.i64.wrap ((many:Int)+1)=((many+1:Nat):Int):=by have:=HM.out;simp[IntKind.wrap,IntKind.bits,IntKind.signed];omega
       go_wp2_with (go_at_call 85;refine Dm.out.mono ?_;rintro e' wE ⟨b,iE,eE,qE,rfl,dE,h1,h2,kE⟩;have DE:=qaa dE;have H1:=qaa h1;have H2:=qaa h2;have KE:=qaa kE;clear dE h1 h2 kE);have TE:=qaa (TD.out.frame KE.out hlo);have QE:=qaa ((KE.out.block Q (Yd QD.out) nQ).trans QD.out);have KF:=qaa (KD.out.trans KE.out);have Gl:Hid (szC (CT.mk (c.wk 8).k (c.wk 8).nm (c.wk 8).tx (c.wk 8).pre ((c.wk 8).sp++[(zn,m)]) (c.wk 8).ns (c.wk 8).kids (c.wk 8).p)≤many+1):=by
        have h1:szC (CT.mk (c.wk 8).k (c.wk 8).nm (c.wk 8).tx (c.wk 8).pre ((c.wk 8).sp++[(zn,m)]) (c.wk 8).ns (c.wk 8).kids (c.wk 8).p)=szC c+1:=by
         unfold szC CT.wk;simp[CT.pre,CT.sp,CT.ns];omega
        have h2:=Dq.out;unfold Hid;omega
       go_roundg (f2+1)
       case measure=>have:=HG.out;omega
       case rel=>
        refine⟨many+1,b,(CT.mk (c.wk 8).k (c.wk 8).nm (c.wk 8).tx (c.wk 8).pre ((c.wk 8).sp++[(zn,m)]) (c.wk 8).ns (c.wk 8).kids (c.wk 8).p),_,_,_,iE,eE,qE,f2,rfl,(by first|rfl|(rw[show wrap64 ((many:Int)+1)=((many+1:Nat):Int) from fw])),TE,DE,KF,QE,Gl,by have:=HM.out;unfold Hid;omega,fun _=>rfl,fun hb=>?_,fun hb=>?_,by omega⟩
        ·obtain⟨Lg,h1,h2,h3,h4,h5⟩:=H1.out hb
         refine⟨.inl ⟨h1,h2,h5⟩,fun _=>?_⟩;obtain⟨h8,h9⟩:=GY.out Lg;have:=Df.out;exact⟨by rw[h3];omega,h9⟩
        ·exact(H2.out hb).2.2
   ·have EZ:(e==0)=false:=by simpa using he
    have LF:Hid (Lv x (fun l=>(qak Ts 7 [125] l).bind fun _ j=>.ok c j) i' e q):=LT.out.dead he;clear he LT BQ;go_upto_region 31 with fail
    clear ge EZ;have HT:=qaa (qa8 (fun l hl=>qa4 Bp.out rfl hl) DR.out LF.out);go_upto_region 32 with(go_at_call 57;refine HT.out.mono ?_;rintro e' w5 ⟨rfl,iZ,eZ,qZ,d5,l5,_,k5⟩;have D5:=qaa d5;have L5:=qaa l5;have K5:=qaa k5;clear d5 l5 k5)
    have T5:=qaa (TR.out.frame K5.out hlo);have Q5:=qaa ((K5.out.block Q (Yd QR.out) nQ).trans QR.out);have KA:=qaa (KR.out.trans K5.out);clear HT DR TR QR KR K5;obtain⟨a3,c3,a4,c4,a5,c5,hv3,hv4,hv5⟩:=T5.out.jk;subst hv3;subst hv4;subst hv5;obtain⟨q0,q1,q2,q3,q4,q5,q6,q7⟩:=ld8 T5.out.blk;obtain⟨⟨_,p0⟩,f0,⟨_,p1⟩,f1,⟨_,p2⟩,f2,⟨_,p3⟩,f3,⟨_,p4⟩,f4,⟨_,p5⟩,f5,⟨_,p6⟩,f6,⟨_,p7⟩,f7,Be,Bf⟩:=st8 Q5.out (.int .i64 c.k) (.string ⟨c.nm.toArray⟩) (.string ⟨c.tx.toArray⟩) (.slice a3 c.pre.length c3) (.slice a4 c.sp.length c4) (.slice a5 c.ns.length c5) (.slice none 0 0) (.int .i64 c.p);have Bg:=qaa Be;have KQ:=qaa Bf;clear Be Bf;go_wp2;clear q0 q1 q2 q3 q4 q5 q6 q7;clear p0 f0 p1 f1 p2 f2 p3 f3 p4 f4 p5 f5 p6 f6 p7 f7;generalize ((((((((w5.setCell ⟨Q,0,none⟩ (.int .i64 c.k)).setCell ⟨Q,1,none⟩ (.string ⟨c.nm.toArray⟩)).setCell ⟨Q,2,none⟩ (.string ⟨c.tx.toArray⟩)).setCell ⟨Q,3,none⟩ (.slice a3 c.pre.length c3)).setCell ⟨Q,4,none⟩ (.slice a4 c.sp.length c4)).setCell ⟨Q,5,none⟩ (.slice a5 c.ns.length c5)).setCell ⟨Q,6,none⟩ (.slice none 0 0)).setCell ⟨Q,7,none⟩ (.int .i64 c.p))=w9 at *;obtain⟨q0,q1,q2,q3,q4,q5,q6,q7⟩:=ld8 Bg.out;refine Yg (by simp[results,Tryz.results184,go_sem,q0,q1,q2,q3,q4,q5,q6,q7];try rfl) rfl ?_;have hrq:¬rp=Q:=by have:=Bc.out;have:=Bd.out;omega
    have Bv:¬g=Q:=by have:=Bc.out;have:=Bd.out;omega
    refine⟨_,iZ,eZ,qZ,rfl,⟨_,_,_,_,_,_,_,_,_,_,_,_,_,_,_,_,rfl⟩,D5.out.kept KQ.out hrq Bv,KA.out.fin KQ.out (by have:=Bd.out;omega),?_⟩;rcases L5.out with⟨h1,h2,h3⟩|⟨h1,h2⟩
    ·exact .inl ⟨h1,h2,c,_,_,rfl,T5.out.ct.frame KQ.out (fun k hk=>by have:=Bd.out;rw[hk];omega) (by have:=Bd.out;omega),T5.out.nodup,by rw[←HX.out];exact h3⟩
    ·exact .inr ⟨h1,by rw[←HX.out];exact h2⟩
end Go.Proofs.YtlmhofjiobmodaaGreatDoor

