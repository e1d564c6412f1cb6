/-
  The document's first by its contract: what has no others within. Condition: the tokens are a scanner's.
-/
import Derived.Test.YtlmhofjiobmodaaGreatDoorP42
set_option maxRecDepth 100000
set_option maxHeartbeats 16000000
namespace Go.Proofs.YtlmhofjiobmodaaGreatDoor
open Go.RowKit Go.Lib
theorem qjv {w:World} {base rp g cap:Nat} {Ts:List Tk} {f i:Nat} (hg:GdT Ts) (hf:Ts.length-(i+1)<f) (h1:(tok Ts i).k=1) (h:DpA w base rp g cap Ts i 0 0):
 Calls Tryz.prog 152 #[.pointer (some ⟨rp,0,none⟩)] w (qs4 base rp g cap Ts w 0 0 (qdz Ts f i)):=by
 obtain⟨x,hx⟩:∃x,x=qdz Ts f i:=⟨_,rfl⟩;rw[←hx];have hne:(tok Ts i).t≠[]:=fun e0=>by have:=(hg.word _ (qhq h.lt)).1 h1;rw[e0] at this;simp at this
 have Eb:Hid (x=if qjr (tok Ts i).t=0 then .bad 90 (tok Ts i).p else qa0 Ts f (.mk (qjr (tok Ts i).t:Nat) [] [] [] [] [] [] (tok Ts i).p) (i+1)):=by
  unfold Hid;rw[hx];unfold qdz;rw[if_neg (by rw[h1];decide),qip h1 hne]
 obtain⟨z,hz⟩:∃z,z=tok Ts i:=⟨_,rfl⟩;rw[←hz] at Eb h1;have HZ:=qaa hz;have Bp:=qaa hg;have Df:=qaa hf;have HN:Hid (i+1<Ts.length):=h.next (by rw[←hz,h1];decide);obtain⟨Q,hQ⟩:∃Q,Q=w.heap.size:=⟨_,rfl⟩;obtain⟨W,hW⟩:∃W,W=w.alloc (.cells #[.int .i64 0,.string ⟨#[]⟩,.string ⟨#[]⟩,.slice none 0 0,.slice none 0 0,.slice none 0 0,.slice none 0 0,.int .i64 0] 60):=⟨_,rfl⟩;have X0:=qaa (show Below w.heap.size w W by rw[hW];exact al Yj _);have Q0:=qaa (show W.heap[Q]? =some (.cells #[.int .i64 0,.string ⟨#[]⟩,.string ⟨#[]⟩,.slice none 0 0,.slice none 0 0,.slice none 0 0,.slice none 0 0,.int .i64 0] 60 (0,0)) by rw[hW,hQ];exact Yh w _);have D:=qaa (h.below X0.out);have Bi:=qaa hQ;have Bc:Hid (rp<Q∧g<Q):=by have:=h.gl;unfold Hid;omega
 have b1:(z.k !=1)=false:=by simp[h1]
 have b2:(z.k !=2)=true:=by simp[h1]
 have b3:(z.k==2)=false:=by simp[h1]
 have HB1:=qaa b1;have HB2:=qaa b2;have HB3:=qaa b3;clear hx hz h h1 hne hg hf b1 b2 b3;go_enter Tryz.func152,Tryz.ntmps152;go_upto_region 1 with fail
 rw[←hQ,←hW];clear hQ hW;have HQ:Hid (∀V,Below W.heap.size W V→(V.cell? ⟨rp,0,none⟩=some (.slice (some ⟨g,0,none⟩) Ts.length cap)∧V.cell? ⟨rp,1,none⟩=some (.int .i64 (i:Nat)))∧V.cell? ⟨g,i*6,none⟩=some (.int .i64 z.k)∧V.cell? ⟨g,i*6+1,none⟩=some (.string ⟨z.t.toArray⟩)∧V.cell? ⟨g,i*6+2,none⟩=some (.int .i64 z.n)∧V.cell? ⟨g,i*6+3,none⟩=some (.int .i64 z.a)∧V.cell? ⟨g,i*6+4,none⟩=some (.int .i64 z.b)∧V.cell? ⟨g,i*6+5,none⟩=some (.int .i64 z.p)):=fun V y=>by
  have h:=D.out.below y;rw[HZ.out];exact⟨h.two,h.cells⟩
 have hlt:(i:Int)<Ts.length:=by have:=D.out.lt;omega
 refine qam (S:=fun V=>Below W.heap.size W V) 11 (by kernel_rfl) ?_;have Bb:Hid (Below W.heap.size W W.drew):=Yj.drew;generalize W.drew=vd at *;refine qac.tk 0 rfl 5 Bb.out (fun a b=>by obtain⟨⟨_,_⟩,_,_,_,_,_,_⟩:=HQ.out a b;go_simp;first|done|rfl) ?_
 try simp only[Act.put,Ya,Yb,Yc]
 refine qac.tk 1 rfl 6 Bb.out (fun a b=>by obtain⟨⟨_,_⟩,_,_,_,_,_,_⟩:=HQ.out a b;go_simp;first|done|rfl) ?_
 try simp only[Act.put,Ya,Yb,Yc]
 refine qac.tk 2 rfl 7 Bb.out (fun a b=>by obtain⟨⟨_,_⟩,_,_,_,_,_,_⟩:=HQ.out a b;go_simp;first|done|rfl) ?_
 try simp only[Act.put,Ya,Yb,Yc]
 refine qac.tk 3 rfl 8 Bb.out (fun a b=>by obtain⟨⟨_,_⟩,_,_,_,_,_,_⟩:=HQ.out a b;go_simp;first|done|rfl) ?_
 try simp only[Act.put,Ya,Yb,Yc]
 refine qac.tk 4 rfl 9 Bb.out (fun a b=>by obtain⟨⟨_,_⟩,_,_,_,_,_,_⟩:=HQ.out a b;go_simp;first|done|rfl) ?_
 try simp only[Act.put,Ya,Yb,Yc]
 refine qac.tk 5 rfl 10 Bb.out (fun a b=>by obtain⟨⟨_,_⟩,_,_,_,_,_,_⟩:=HQ.out a b;go_simp;first|done|rfl) ?_
 try simp only[Act.put,Ya,Yb,Yc]
 refine qac.tk 6 rfl 11 Bb.out (fun a b=>by obtain⟨⟨_,_⟩,_,_,_,_,_,_⟩:=HQ.out a b;go_simp;first|done|rfl) ?_
 try simp only[Act.put,Ya,Yb,Yc]
 refine qac.tk 7 rfl 12 Bb.out (fun a b=>by obtain⟨⟨_,_⟩,_,_,_,_,_,_⟩:=HQ.out a b;go_simp;first|done|rfl) ?_
 try simp only[Act.put,Ya,Yb,Yc]
 refine qac.tk 8 rfl 13 Bb.out (fun a b=>by obtain⟨⟨_,_⟩,_,_,_,_,_,_⟩:=HQ.out a b;go_simp;first|done|rfl) ?_
 try simp only[Act.put,Ya,Yb,Yc]
 refine qac.tk 9 rfl 14 Bb.out (fun a b=>by obtain⟨⟨_,_⟩,_,_,_,_,_,_⟩:=HQ.out a b;go_simp;first|done|rfl) ?_
 try simp only[Act.put,Ya,Yb,Yc]
 have BL:Hid (Below W.heap.size W (vd.alloc (.cells #[.int .i64 0,.string ⟨#[]⟩,.int .i64 0,.int .i64 0,.int .i64 0,.int .i64 0] 49))):=al Bb.out _;refine qac.stq 10 rfl fun K hK=>?_
 go_simp;refine hK _ _ BL.out ?_;clear hK K
 try simp only[Act.put,Ya,Yb,Yc]
 refine qac.lst rfl fun K hK=>?_
 go_simp;refine hK _ _ ?_;clear hK K hlt BL;have XT:Hid (Below W.heap.size W (vd.alloc (.cells #[.int .i64 z.k,.string ⟨z.t.toArray⟩,.int .i64 z.n,.int .i64 z.a,.int .i64 z.b,.int .i64 z.p] 49))):=al Bb.out _;have PB:=qaa (Yh vd (.cells #[.int .i64 z.k,.string ⟨z.t.toArray⟩,.int .i64 z.n,.int .i64 z.a,.int .i64 z.b,.int .i64 z.p] 49));obtain⟨PT,hPT⟩:∃P,P=vd.heap.size:=⟨_,rfl⟩;have EE:Hid (W.heap.size≤PT):=by rw[hPT];exact Bb.out.size
 rw[←hPT] at PB
 try rw[←hPT]
 clear HQ Bb hPT;generalize vd.alloc (.cells #[.int .i64 z.k,.string ⟨z.t.toArray⟩,.int .i64 z.n,.int .i64 z.a,.int .i64 z.b,.int .i64 z.p] 49)=wt at *;have D1:=qaa (D.out.below XT.out);have Q1:=qaa ((XT.out.block Q (Yd Q0.out)).trans Q0.out);have XA:=qaa (bt X0.out XT.out Yi);have nQ:Q≠rp:=by have:=Bc.out;omega
 clear D Q0 X0 XT;have g5:wt.cell? ⟨PT,5,none⟩=some (.int .i64 z.p):=by rw[Ye _ _ _ _ _ _ PB.out];rfl
 have X2:Hid (Below wt.heap.size wt (wt.alloc (.cells #[.int .i64 0,.string ⟨#[]⟩,.string ⟨#[]⟩,.slice none 0 0,.slice none 0 0,.slice none 0 0,.slice none 0 0,.int .i64 z.p] 60))):=al Yj _;have P2:=qaa (Yh wt (.cells #[.int .i64 0,.string ⟨#[]⟩,.string ⟨#[]⟩,.slice none 0 0,.slice none 0 0,.slice none 0 0,.slice none 0 0,.int .i64 z.p] 60));go_upto_region 3 with fail
 clear g5;obtain⟨P4,hP4⟩:∃P4,P4=wt.heap.size:=⟨_,rfl⟩;rw[←hP4] at P2;rw[←hP4];have Bq:Hid (Q<P4∧PT<P4):=by have:=Yd Q1.out;have:=Yd PB.out;unfold Hid;omega
 have D2:=qaa (D1.out.below X2.out);have Q2:=qaa ((X2.out.block Q (Yd Q1.out)).trans Q1.out);have T2:=qaa ((X2.out.block PT (Yd PB.out)).trans PB.out);have XB:=qaa (bt XA.out X2.out Yi);clear hP4 D1 Q1 PB XA X2;generalize wt.alloc (.cells #[.int .i64 0,.string ⟨#[]⟩,.string ⟨#[]⟩,.slice none 0 0,.slice none 0 0,.slice none 0 0,.slice none 0 0,.int .i64 z.p] 60)=w2 at *;have nP4:P4≠rp:=by have:=Bc.out;have:=Bq.out;omega
 have nPT:PT≠rp:=fun e=>qar T2.out D2.out.blk (by decide) e
 have hl2:Q≠P4∧rp≠P4∧g≠P4:=by have:=Bc.out;have:=Bq.out;exact⟨by omega,by omega,by omega⟩
 have ge:=D2.out.four.2.2.1;have g0:w2.cell? ⟨PT,0,none⟩=some (.int .i64 z.k):=by rw[Ye _ _ _ _ _ _ T2.out];rfl
 have b1:=HB1.out;have b2:=HB2.out;go_upto_region 6 with fail
 clear ge g0 b1 b2;obtain⟨_,c1⟩:=D2.out.two;have f1:=Yf w2 rp 1 _ _ D2.out.blk;have fw:IntKind.i64.wrap ((i:Int)+1)=(i:Int)+1:=by have:=D2.out.few;have:=HN.out;simp[IntKind.wrap,IntKind.bits,IntKind.signed];omega
 go_upto_region 7 with fail
 clear c1 f1 fw;have DR:=qaa (D2.out.step HN.out);have K2:Hid (Kept (fun k=>k=rp) w2 (w2.setCell ⟨rp,1,none⟩ (.int .i64 ((i:Int)+1)))):=Kept.setCell (F:=fun k=>k=rp) (p:=⟨rp,1,none⟩) (Kept.refl _ _) rfl _;have QR:=qaa ((K2.out.block Q (Yd Q2.out) nQ).trans Q2.out);have TB:=qaa ((K2.out.block PT (Yd T2.out) nPT).trans T2.out);have PR:=qaa ((K2.out.block P4 (Yd P2.out) nP4).trans P2.out);have KR:=qaa ((Kept.of_below (F:=fun k=>k=rp) XB.out).trans K2.out);clear D2 Q2 T2 P2 XB K2;generalize w2.setCell ⟨rp,1,none⟩ (.int .i64 ((i:Int)+1))=w4 at *;have g0:w4.cell? ⟨PT,0,none⟩=some (.int .i64 z.k):=by rw[Ye _ _ _ _ _ _ TB.out];rfl
 have b3:=HB3.out;go_upto_region 11 with fail
 clear g0 b3;have g1:w4.cell? ⟨PT,1,none⟩=some (.string ⟨z.t.toArray⟩):=by rw[Ye _ _ _ _ _ _ TB.out];rfl
 obtain⟨tt,Lr⟩:∃tt,tt=z.t:=⟨_,rfl⟩;rw[←Lr] at g1 Eb TB;clear Lr;by_cases a0:tt=[116,114,117,101]
 ·subst a0
  have Bw:Hid (x=qa0 Ts f (.mk 1 [] [] [] [] [] [] z.p) (i+1)):=Eb.out;clear Eb;go_upto_region 15 with fail
  clear g1;have EX:Hid (x=.ok (.mk 1 [] [] [] [] [] [] z.p) (i+1)):=Bw.out;clear Bw;have g0:∃u,w4.cell? ⟨P4,0,none⟩=some u:=⟨_,by rw[Ye _ _ _ _ _ _ PR.out];rfl⟩;obtain⟨_,g0⟩:=g0;have f0:=Yf w4 P4 0 _ _ PR.out;go_upto_region 34 with fail
  clear g0 f0;have KS:Hid (Kept (fun k=>k=P4) w4 (w4.setCell ⟨P4,0,none⟩ (.int .i64 1))):=Kept.setCell (F:=fun k=>k=P4) (p:=⟨P4,0,none⟩) (Kept.refl _ _) rfl _;have PS:Hid ((w4.setCell ⟨P4,0,none⟩ (.int .i64 1)).heap[P4]? =some (.cells #[.int .i64 1,.string ⟨#[]⟩,.string ⟨#[]⟩,.slice none 0 0,.slice none 0 0,.slice none 0 0,.slice none 0 0,.int .i64 z.p] 60 (0,0))):=by
   have:=qab PR.out 0 (.int .i64 1);simpa [Hid] using this
  have QS:=qaa ((KS.out.block Q (Yd QR.out) hl2.1).trans QR.out);have DS:=qaa (DR.out.kept KS.out hl2.2.1 hl2.2.2);have KT:Hid (Kept (fun k=>k=rp) w (w4.setCell ⟨P4,0,none⟩ (.int .i64 1))):=KR.out.fin KS.out (by have:=Bq.out;have:=Bi.out;omega);clear PR QR DR KR KS;generalize w4.setCell ⟨P4,0,none⟩ (.int .i64 1)=w5 at *;have PR:=qaa PS.out;have QR:=qaa QS.out;have DR:=qaa DS.out;have KR:=qaa KT.out;clear PS QS DS KT;obtain⟨q0,q1,q2,q3,q4,q5,q6,q7⟩:=ld8 PR.out;obtain⟨⟨_,p0⟩,f0,⟨_,p1⟩,f1,⟨_,p2⟩,f2,⟨_,p3⟩,f3,⟨_,p4⟩,f4,⟨_,p5⟩,f5,⟨_,p6⟩,f6,⟨_,p7⟩,f7,Be,Bf⟩:=st8 QR.out (.int .i64 1) (.string ⟨#[]⟩) (.string ⟨#[]⟩) (.slice none 0 0) (.slice none 0 0) (.slice none 0 0) (.slice none 0 0) (.int .i64 z.p);have Bg:=qaa Be;have KQ:=qaa Bf;clear Be Bf;go_wp2;clear q0 q1 q2 q3 q4 q5 q6 q7;clear p0 f0 p1 f1 p2 f2 p3 f3 p4 f4 p5 f5 p6 f6 p7 f7;generalize ((((((((w5.setCell ⟨Q,0,none⟩ (.int .i64 1)).setCell ⟨Q,1,none⟩ (.string ⟨#[]⟩)).setCell ⟨Q,2,none⟩ (.string ⟨#[]⟩)).setCell ⟨Q,3,none⟩ (.slice none 0 0)).setCell ⟨Q,4,none⟩ (.slice none 0 0)).setCell ⟨Q,5,none⟩ (.slice none 0 0)).setCell ⟨Q,6,none⟩ (.slice none 0 0)).setCell ⟨Q,7,none⟩ (.int .i64 z.p))=w9 at *;obtain⟨q0,q1,q2,q3,q4,q5,q6,q7⟩:=ld8 Bg.out;refine Yg (by simp[results,Tryz.results152,go_sem,q0,q1,q2,q3,q4,q5,q6,q7];try rfl) rfl ?_;have hrq:¬rp=Q:=by have:=Bc.out;omega
  have Bv:¬g=Q:=by have:=Bc.out;omega
  refine⟨_,_,_,_,rfl,⟨_,_,_,_,_,_,_,_,_,_,_,_,_,_,_,_,rfl⟩,DR.out.kept KQ.out hrq Bv,KR.out.fin KQ.out (by have:=Bi.out;omega),?_⟩;exact .inl ⟨rfl,rfl,rfl,.mk 1 [] [] [] [] [] [] z.p,_,_,rfl,qaj.leaf w9 _ 1 [] [] z.p,List.nodup_nil,EX.out⟩
 by_cases a1:tt=[102,97,108,115,101]
 ·subst a1
  have Bw:Hid (x=qa0 Ts f (.mk 2 [] [] [] [] [] [] z.p) (i+1)):=Eb.out;clear Eb;go_upto_region 17 with fail
  clear g1;have EX:Hid (x=.ok (.mk 2 [] [] [] [] [] [] z.p) (i+1)):=Bw.out;clear Bw;have g0:∃u,w4.cell? ⟨P4,0,none⟩=some u:=⟨_,by rw[Ye _ _ _ _ _ _ PR.out];rfl⟩;obtain⟨_,g0⟩:=g0;have f0:=Yf w4 P4 0 _ _ PR.out;go_upto_region 34 with fail
  clear g0 f0;have KS:Hid (Kept (fun k=>k=P4) w4 (w4.setCell ⟨P4,0,none⟩ (.int .i64 2))):=Kept.setCell (F:=fun k=>k=P4) (p:=⟨P4,0,none⟩) (Kept.refl _ _) rfl _;have PS:Hid ((w4.setCell ⟨P4,0,none⟩ (.int .i64 2)).heap[P4]? =some (.cells #[.int .i64 2,.string ⟨#[]⟩,.string ⟨#[]⟩,.slice none 0 0,.slice none 0 0,.slice none 0 0,.slice none 0 0,.int .i64 z.p] 60 (0,0))):=by
   have:=qab PR.out 0 (.int .i64 2);simpa [Hid] using this
  have QS:=qaa ((KS.out.block Q (Yd QR.out) hl2.1).trans QR.out);have DS:=qaa (DR.out.kept KS.out hl2.2.1 hl2.2.2);have KT:Hid (Kept (fun k=>k=rp) w (w4.setCell ⟨P4,0,none⟩ (.int .i64 2))):=KR.out.fin KS.out (by have:=Bq.out;have:=Bi.out;omega);clear PR QR DR KR KS;generalize w4.setCell ⟨P4,0,none⟩ (.int .i64 2)=w5 at *;have PR:=qaa PS.out;have QR:=qaa QS.out;have DR:=qaa DS.out;have KR:=qaa KT.out;clear PS QS DS KT;obtain⟨q0,q1,q2,q3,q4,q5,q6,q7⟩:=ld8 PR.out;obtain⟨⟨_,p0⟩,f0,⟨_,p1⟩,f1,⟨_,p2⟩,f2,⟨_,p3⟩,f3,⟨_,p4⟩,f4,⟨_,p5⟩,f5,⟨_,p6⟩,f6,⟨_,p7⟩,f7,Be,Bf⟩:=st8 QR.out (.int .i64 2) (.string ⟨#[]⟩) (.string ⟨#[]⟩) (.slice none 0 0) (.slice none 0 0) (.slice none 0 0) (.slice none 0 0) (.int .i64 z.p);have Bg:=qaa Be;have KQ:=qaa Bf;clear Be Bf;go_wp2;clear q0 q1 q2 q3 q4 q5 q6 q7;clear p0 f0 p1 f1 p2 f2 p3 f3 p4 f4 p5 f5 p6 f6 p7 f7;generalize ((((((((w5.setCell ⟨Q,0,none⟩ (.int .i64 2)).setCell ⟨Q,1,none⟩ (.string ⟨#[]⟩)).setCell ⟨Q,2,none⟩ (.string ⟨#[]⟩)).setCell ⟨Q,3,none⟩ (.slice none 0 0)).setCell ⟨Q,4,none⟩ (.slice none 0 0)).setCell ⟨Q,5,none⟩ (.slice none 0 0)).setCell ⟨Q,6,none⟩ (.slice none 0 0)).setCell ⟨Q,7,none⟩ (.int .i64 z.p))=w9 at *;obtain⟨q0,q1,q2,q3,q4,q5,q6,q7⟩:=ld8 Bg.out;refine Yg (by simp[results,Tryz.results152,go_sem,q0,q1,q2,q3,q4,q5,q6,q7];try rfl) rfl ?_;have hrq:¬rp=Q:=by have:=Bc.out;omega
  have Bv:¬g=Q:=by have:=Bc.out;omega
  refine⟨_,_,_,_,rfl,⟨_,_,_,_,_,_,_,_,_,_,_,_,_,_,_,_,rfl⟩,DR.out.kept KQ.out hrq Bv,KR.out.fin KQ.out (by have:=Bi.out;omega),?_⟩;exact .inl ⟨rfl,rfl,rfl,.mk 2 [] [] [] [] [] [] z.p,_,_,rfl,qaj.leaf w9 _ 2 [] [] z.p,List.nodup_nil,EX.out⟩
 by_cases a2:tt=[112,97,116,104]
 ·subst a2
  have Bw:Hid (x=qa0 Ts f (.mk 10 [] [] [] [] [] [] z.p) (i+1)):=Eb.out;clear Eb;go_upto_region 19 with fail
  clear g1;have L0:Hid (Lv x (fun l=>(qak Ts 7 [126] l).bind fun _ j=>(qa9 Ts 6 j).bind fun t l=>.ok (.mk 10 [] t.t [] [] [] [] z.p) l) (i+1) 0 0):=.inl ⟨rfl,rfl,Bw.out⟩;clear Bw;have g0:∃u,w4.cell? ⟨P4,0,none⟩=some u:=⟨_,by rw[Ye _ _ _ _ _ _ PR.out];rfl⟩;obtain⟨_,g0⟩:=g0;have f0:=Yf w4 P4 0 _ _ PR.out;go_upto_region 20 with fail
  clear g0 f0;have KS:Hid (Kept (fun k=>k=P4) w4 (w4.setCell ⟨P4,0,none⟩ (.int .i64 10))):=Kept.setCell (F:=fun k=>k=P4) (p:=⟨P4,0,none⟩) (Kept.refl _ _) rfl _;have PS:Hid ((w4.setCell ⟨P4,0,none⟩ (.int .i64 10)).heap[P4]? =some (.cells #[.int .i64 10,.string ⟨#[]⟩,.string ⟨#[]⟩,.slice none 0 0,.slice none 0 0,.slice none 0 0,.slice none 0 0,.int .i64 z.p] 60 (0,0))):=by
   have:=qab PR.out 0 (.int .i64 10);simpa [Hid] using this
  have QS:=qaa ((KS.out.block Q (Yd QR.out) hl2.1).trans QR.out);have DS:=qaa (DR.out.kept KS.out hl2.2.1 hl2.2.2);have KT:Hid (Kept (fun k=>k=rp) w (w4.setCell ⟨P4,0,none⟩ (.int .i64 10))):=KR.out.fin KS.out (by have:=Bq.out;have:=Bi.out;omega);clear PR QR DR KR KS;generalize w4.setCell ⟨P4,0,none⟩ (.int .i64 10)=w5 at *;have PR:=qaa PS.out;have QR:=qaa QS.out;have DR:=qaa DS.out;have KR:=qaa KT.out;clear PS QS DS KT;have HT:=qaa (qa8 (fun l hl=>qa4 Bp.out rfl hl) DR.out L0.out);go_upto_region 21 with(go_at_call 57;refine HT.out.mono ?_;rintro e' w6 ⟨rfl,i1,e1,q1,d1,l1,h1,k1⟩;have DN:=qaa d1;have L1:=qaa l1;have KN:=qaa k1;clear d1 l1 h1 k1)
  clear HT;have PS:=qaa ((KN.out.block P4 (Yd PR.out) nP4).trans PR.out);have QS:=qaa ((KN.out.block Q (Yd QR.out) nQ).trans QR.out);have KT:=qaa (KR.out.trans KN.out);clear PR QR DR KR KN;have PR:=qaa PS.out;have QR:=qaa QS.out;have DR:=qaa DN.out;have KR:=qaa KT.out;clear PS QS DN KT;have HT:=qaa (qcl (by decide) DR.out L1.out);have hf:=qmh;go_wp2_with (fail);refine HT.out.mono ?_;rintro e' w7 ⟨u2,i2,e2,q2,rfl,d1,l1,h1,k1⟩;have DN:=qaa d1;have L2:=qaa l1;have KN:=qaa k1;clear d1 l1 h1 k1 HT;have PS:=qaa ((KN.out.block P4 (Yd PR.out) nP4).trans PR.out);have QS:=qaa ((KN.out.block Q (Yd QR.out) nQ).trans QR.out);have KT:=qaa (KR.out.trans KN.out);clear PR QR DR KR KN;have PR:=qaa PS.out;have QR:=qaa QS.out;have DR:=qaa DN.out;have KR:=qaa KT.out;clear PS QS DN KT;have g0:∃u,w7.cell? ⟨P4,2,none⟩=some u:=⟨_,by rw[Ye _ _ _ _ _ _ PR.out];rfl⟩;obtain⟨_,g0⟩:=g0;have f0:=Yf w7 P4 2 _ _ PR.out;go_upto_region 34 with fail
  clear g0 f0;have KS:Hid (Kept (fun k=>k=P4) w7 (w7.setCell ⟨P4,2,none⟩ (.string ⟨u2.t.toArray⟩))):=Kept.setCell (F:=fun k=>k=P4) (p:=⟨P4,2,none⟩) (Kept.refl _ _) rfl _;have PS:Hid ((w7.setCell ⟨P4,2,none⟩ (.string ⟨u2.t.toArray⟩)).heap[P4]? =some (.cells #[.int .i64 10,.string ⟨#[]⟩,.string ⟨u2.t.toArray⟩,.slice none 0 0,.slice none 0 0,.slice none 0 0,.slice none 0 0,.int .i64 z.p] 60 (0,0))):=by
   have:=qab PR.out 2 (.string ⟨u2.t.toArray⟩);simpa [Hid] using this
  have QS:=qaa ((KS.out.block Q (Yd QR.out) hl2.1).trans QR.out);have DS:=qaa (DR.out.kept KS.out hl2.2.1 hl2.2.2);have KT:Hid (Kept (fun k=>k=rp) w (w7.setCell ⟨P4,2,none⟩ (.string ⟨u2.t.toArray⟩))):=KR.out.fin KS.out (by have:=Bq.out;have:=Bi.out;omega);clear PR QR DR KR KS;generalize w7.setCell ⟨P4,2,none⟩ (.string ⟨u2.t.toArray⟩)=w8 at *;have PR:=qaa PS.out;have QR:=qaa QS.out;have DR:=qaa DS.out;have KR:=qaa KT.out;clear PS QS DS KT;clear hf;obtain⟨q0,q1,q2,q3,q4,q5,q6,q7⟩:=ld8 PR.out;obtain⟨⟨_,p0⟩,f0,⟨_,p1⟩,f1,⟨_,p2⟩,f2,⟨_,p3⟩,f3,⟨_,p4⟩,f4,⟨_,p5⟩,f5,⟨_,p6⟩,f6,⟨_,p7⟩,f7,Be,Bf⟩:=st8 QR.out (.int .i64 10) (.string ⟨#[]⟩) (.string ⟨u2.t.toArray⟩) (.slice none 0 0) (.slice none 0 0) (.slice none 0 0) (.slice none 0 0) (.int .i64 z.p);have Bg:=qaa Be;have KQ:=qaa Bf;clear Be Bf;go_wp2;clear q0 q1 q2 q3 q4 q5 q6 q7;clear p0 f0 p1 f1 p2 f2 p3 f3 p4 f4 p5 f5 p6 f6 p7 f7;generalize ((((((((w8.setCell ⟨Q,0,none⟩ (.int .i64 10)).setCell ⟨Q,1,none⟩ (.string ⟨#[]⟩)).setCell ⟨Q,2,none⟩ (.string ⟨u2.t.toArray⟩)).setCell ⟨Q,3,none⟩ (.slice none 0 0)).setCell ⟨Q,4,none⟩ (.slice none 0 0)).setCell ⟨Q,5,none⟩ (.slice none 0 0)).setCell ⟨Q,6,none⟩ (.slice none 0 0)).setCell ⟨Q,7,none⟩ (.int .i64 z.p))=w9 at *;obtain⟨q0,q1,q2,q3,q4,q5,q6,q7⟩:=ld8 Bg.out;refine Yg (by simp[results,Tryz.results152,go_sem,q0,q1,q2,q3,q4,q5,q6,q7];try rfl) rfl ?_;have hrq:¬rp=Q:=by have:=Bc.out;omega
  have Bv:¬g=Q:=by have:=Bc.out;omega
  refine⟨_,_,_,_,rfl,⟨_,_,_,_,_,_,_,_,_,_,_,_,_,_,_,_,rfl⟩,DR.out.kept KQ.out hrq Bv,KR.out.fin KQ.out (by have:=Bi.out;omega),?_⟩;rcases L2.out with⟨h1,h2,h3⟩|⟨h1,h2⟩
  ·exact .inl ⟨rfl,h1,h2,.mk 10 [] u2.t [] [] [] [] z.p,_,_,rfl,qaj.leaf w9 _ _ _ _ _,List.nodup_nil,h3⟩
  ·exact .inr ⟨h1,fun _=>h2,fun h=>absurd rfl h⟩
 by_cases a3:tt=[104,101,97,100,101,114]
 ·subst a3
  have Bw:Hid (x=qa0 Ts f (.mk 11 [] [] [] [] [] [] z.p) (i+1)):=Eb.out;clear Eb;go_upto_region 23 with fail
  clear g1;have L0:Hid (Lv x (fun l=>(qa9 Ts 6 l).bind fun u h=>(qak Ts 7 [126] h).bind fun _ j=>(qa9 Ts 6 j).bind fun t l=>.ok (.mk 11 u.t t.t [] [] [] [] z.p) l) (i+1) 0 0):=.inl ⟨rfl,rfl,Bw.out⟩;clear Bw;have g0:∃u,w4.cell? ⟨P4,0,none⟩=some u:=⟨_,by rw[Ye _ _ _ _ _ _ PR.out];rfl⟩;obtain⟨_,g0⟩:=g0;have f0:=Yf w4 P4 0 _ _ PR.out;go_upto_region 24 with fail
  clear g0 f0;have KS:Hid (Kept (fun k=>k=P4) w4 (w4.setCell ⟨P4,0,none⟩ (.int .i64 11))):=Kept.setCell (F:=fun k=>k=P4) (p:=⟨P4,0,none⟩) (Kept.refl _ _) rfl _;have PS:Hid ((w4.setCell ⟨P4,0,none⟩ (.int .i64 11)).heap[P4]? =some (.cells #[.int .i64 11,.string ⟨#[]⟩,.string ⟨#[]⟩,.slice none 0 0,.slice none 0 0,.slice none 0 0,.slice none 0 0,.int .i64 z.p] 60 (0,0))):=by
   have:=qab PR.out 0 (.int .i64 11);simpa [Hid] using this
  have QS:=qaa ((KS.out.block Q (Yd QR.out) hl2.1).trans QR.out);have DS:=qaa (DR.out.kept KS.out hl2.2.1 hl2.2.2);have KT:Hid (Kept (fun k=>k=rp) w (w4.setCell ⟨P4,0,none⟩ (.int .i64 11))):=KR.out.fin KS.out (by have:=Bq.out;have:=Bi.out;omega);clear PR QR DR KR KS;generalize w4.setCell ⟨P4,0,none⟩ (.int .i64 11)=w5 at *;have PR:=qaa PS.out;have QR:=qaa QS.out;have DR:=qaa DS.out;have KR:=qaa KT.out;clear PS QS DS KT;have HT:=qaa (qcl (by decide) DR.out L0.out);have hf:=qmh;go_wp2_with (fail);refine HT.out.mono ?_;rintro e' w6 ⟨u1,i1,e1,q1,rfl,d1,l1,h1,k1⟩;have DN:=qaa d1;have L1:=qaa l1;have KN:=qaa k1;clear d1 l1 h1 k1 HT;have PS:=qaa ((KN.out.block P4 (Yd PR.out) nP4).trans PR.out);have QS:=qaa ((KN.out.block Q (Yd QR.out) nQ).trans QR.out);have KT:=qaa (KR.out.trans KN.out);clear PR QR DR KR KN;have PR:=qaa PS.out;have QR:=qaa QS.out;have DR:=qaa DN.out;have KR:=qaa KT.out;clear PS QS DN KT;have g0:∃u,w6.cell? ⟨P4,1,none⟩=some u:=⟨_,by rw[Ye _ _ _ _ _ _ PR.out];rfl⟩;obtain⟨_,g0⟩:=g0;have f0:=Yf w6 P4 1 _ _ PR.out;go_upto_region 25 with fail
  clear g0 f0;have KS:Hid (Kept (fun k=>k=P4) w6 (w6.setCell ⟨P4,1,none⟩ (.string ⟨u1.t.toArray⟩))):=Kept.setCell (F:=fun k=>k=P4) (p:=⟨P4,1,none⟩) (Kept.refl _ _) rfl _;have PS:Hid ((w6.setCell ⟨P4,1,none⟩ (.string ⟨u1.t.toArray⟩)).heap[P4]? =some (.cells #[.int .i64 11,.string ⟨u1.t.toArray⟩,.string ⟨#[]⟩,.slice none 0 0,.slice none 0 0,.slice none 0 0,.slice none 0 0,.int .i64 z.p] 60 (0,0))):=by
   have:=qab PR.out 1 (.string ⟨u1.t.toArray⟩);simpa [Hid] using this
  have QS:=qaa ((KS.out.block Q (Yd QR.out) hl2.1).trans QR.out);have DS:=qaa (DR.out.kept KS.out hl2.2.1 hl2.2.2);have KT:Hid (Kept (fun k=>k=rp) w (w6.setCell ⟨P4,1,none⟩ (.string ⟨u1.t.toArray⟩))):=KR.out.fin KS.out (by have:=Bq.out;have:=Bi.out;omega);clear PR QR DR KR KS;generalize w6.setCell ⟨P4,1,none⟩ (.string ⟨u1.t.toArray⟩)=w7 at *;have PR:=qaa PS.out;have QR:=qaa QS.out;have DR:=qaa DS.out;have KR:=qaa KT.out;clear PS QS DS KT;clear hf;have HT:=qaa (qa8 (fun l hl=>qa4 Bp.out rfl hl) DR.out L1.out);go_upto_region 26 with(go_at_call 57;refine HT.out.mono ?_;rintro e' wa ⟨rfl,i2,e2,q2,d1,l1,h1,k1⟩;have DN:=qaa d1;have L2:=qaa l1;have KN:=qaa k1;clear d1 l1 h1 k1)
  clear HT;have PS:=qaa ((KN.out.block P4 (Yd PR.out) nP4).trans PR.out);have QS:=qaa ((KN.out.block Q (Yd QR.out) nQ).trans QR.out);have KT:=qaa (KR.out.trans KN.out);clear PR QR DR KR KN;have PR:=qaa PS.out;have QR:=qaa QS.out;have DR:=qaa DN.out;have KR:=qaa KT.out;clear PS QS DN KT;have HT:=qaa (qcl (by decide) DR.out L2.out);have hf:=qmh;go_wp2_with (fail);refine HT.out.mono ?_;rintro e' wb ⟨u3,i3,e3,q3,rfl,d1,l1,h1,k1⟩;have DN:=qaa d1;have L3:=qaa l1;have KN:=qaa k1;clear d1 l1 h1 k1 HT;have PS:=qaa ((KN.out.block P4 (Yd PR.out) nP4).trans PR.out);have QS:=qaa ((KN.out.block Q (Yd QR.out) nQ).trans QR.out);have KT:=qaa (KR.out.trans KN.out);clear PR QR DR KR KN;have PR:=qaa PS.out;have QR:=qaa QS.out;have DR:=qaa DN.out;have KR:=qaa KT.out;clear PS QS DN KT;have g0:∃u,wb.cell? ⟨P4,2,none⟩=some u:=⟨_,by rw[Ye _ _ _ _ _ _ PR.out];rfl⟩;obtain⟨_,g0⟩:=g0;have f0:=Yf wb P4 2 _ _ PR.out;go_upto_region 34 with fail
  clear g0 f0;have KS:Hid (Kept (fun k=>k=P4) wb (wb.setCell ⟨P4,2,none⟩ (.string ⟨u3.t.toArray⟩))):=Kept.setCell (F:=fun k=>k=P4) (p:=⟨P4,2,none⟩) (Kept.refl _ _) rfl _;have PS:Hid ((wb.setCell ⟨P4,2,none⟩ (.string ⟨u3.t.toArray⟩)).heap[P4]? =some (.cells #[.int .i64 11,.string ⟨u1.t.toArray⟩,.string ⟨u3.t.toArray⟩,.slice none 0 0,.slice none 0 0,.slice none 0 0,.slice none 0 0,.int .i64 z.p] 60 (0,0))):=by
   have:=qab PR.out 2 (.string ⟨u3.t.toArray⟩);simpa [Hid] using this
  have QS:=qaa ((KS.out.block Q (Yd QR.out) hl2.1).trans QR.out);have DS:=qaa (DR.out.kept KS.out hl2.2.1 hl2.2.2);have KT:Hid (Kept (fun k=>k=rp) w (wb.setCell ⟨P4,2,none⟩ (.string ⟨u3.t.toArray⟩))):=KR.out.fin KS.out (by have:=Bq.out;have:=Bi.out;omega);clear PR QR DR KR KS;generalize wb.setCell ⟨P4,2,none⟩ (.string ⟨u3.t.toArray⟩)=w8 at *;have PR:=qaa PS.out;have QR:=qaa QS.out;have DR:=qaa DS.out;have KR:=qaa KT.out;clear PS QS DS KT;clear hf;obtain⟨q0,q1,q2,q3,q4,q5,q6,q7⟩:=ld8 PR.out;obtain⟨⟨_,p0⟩,f0,⟨_,p1⟩,f1,⟨_,p2⟩,f2,⟨_,p3⟩,f3,⟨_,p4⟩,f4,⟨_,p5⟩,f5,⟨_,p6⟩,f6,⟨_,p7⟩,f7,Be,Bf⟩:=st8 QR.out (.int .i64 11) (.string ⟨u1.t.toArray⟩) (.string ⟨u3.t.toArray⟩) (.slice none 0 0) (.slice none 0 0) (.slice none 0 0) (.slice none 0 0) (.int .i64 z.p);have Bg:=qaa Be;have KQ:=qaa Bf;clear Be Bf;go_wp2;clear q0 q1 q2 q3 q4 q5 q6 q7;clear p0 f0 p1 f1 p2 f2 p3 f3 p4 f4 p5 f5 p6 f6 p7 f7;generalize ((((((((w8.setCell ⟨Q,0,none⟩ (.int .i64 11)).setCell ⟨Q,1,none⟩ (.string ⟨u1.t.toArray⟩)).setCell ⟨Q,2,none⟩ (.string ⟨u3.t.toArray⟩)).setCell ⟨Q,3,none⟩ (.slice none 0 0)).setCell ⟨Q,4,none⟩ (.slice none 0 0)).setCell ⟨Q,5,none⟩ (.slice none 0 0)).setCell ⟨Q,6,none⟩ (.slice none 0 0)).setCell ⟨Q,7,none⟩ (.int .i64 z.p))=w9 at *;obtain⟨q0,q1,q2,q3,q4,q5,q6,q7⟩:=ld8 Bg.out;refine Yg (by simp[results,Tryz.results152,go_sem,q0,q1,q2,q3,q4,q5,q6,q7];try rfl) rfl ?_;have hrq:¬rp=Q:=by have:=Bc.out;omega
  have Bv:¬g=Q:=by have:=Bc.out;omega
  refine⟨_,_,_,_,rfl,⟨_,_,_,_,_,_,_,_,_,_,_,_,_,_,_,_,rfl⟩,DR.out.kept KQ.out hrq Bv,KR.out.fin KQ.out (by have:=Bi.out;omega),?_⟩;rcases L3.out with⟨h1,h2,h3⟩|⟨h1,h2⟩
  ·exact .inl ⟨rfl,h1,h2,.mk 11 u1.t u3.t [] [] [] [] z.p,_,_,rfl,qaj.leaf w9 _ _ _ _ _,List.nodup_nil,h3⟩
  ·exact .inr ⟨h1,fun _=>h2,fun h=>absurd rfl h⟩
 by_cases a4:tt=[104,97,115]
 ·subst a4
  have Bw:Hid (x=qa0 Ts f (.mk 12 [] [] [] [] [] [] z.p) (i+1)):=Eb.out;clear Eb;go_upto_region 28 with fail
  clear g1;have L0:Hid (Lv x (fun l=>(qa9 Ts 6 l).bind fun u h=>.ok (.mk 12 u.t [] [] [] [] [] z.p) h) (i+1) 0 0):=.inl ⟨rfl,rfl,Bw.out⟩;clear Bw;have g0:∃u,w4.cell? ⟨P4,0,none⟩=some u:=⟨_,by rw[Ye _ _ _ _ _ _ PR.out];rfl⟩;obtain⟨_,g0⟩:=g0;have f0:=Yf w4 P4 0 _ _ PR.out;go_upto_region 29 with fail
  clear g0 f0;have KS:Hid (Kept (fun k=>k=P4) w4 (w4.setCell ⟨P4,0,none⟩ (.int .i64 12))):=Kept.setCell (F:=fun k=>k=P4) (p:=⟨P4,0,none⟩) (Kept.refl _ _) rfl _;have PS:Hid ((w4.setCell ⟨P4,0,none⟩ (.int .i64 12)).heap[P4]? =some (.cells #[.int .i64 12,.string ⟨#[]⟩,.string ⟨#[]⟩,.slice none 0 0,.slice none 0 0,.slice none 0 0,.slice none 0 0,.int .i64 z.p] 60 (0,0))):=by
   have:=qab PR.out 0 (.int .i64 12);simpa [Hid] using this
  have QS:=qaa ((KS.out.block Q (Yd QR.out) hl2.1).trans QR.out);have DS:=qaa (DR.out.kept KS.out hl2.2.1 hl2.2.2);have KT:Hid (Kept (fun k=>k=rp) w (w4.setCell ⟨P4,0,none⟩ (.int .i64 12))):=KR.out.fin KS.out (by have:=Bq.out;have:=Bi.out;omega);clear PR QR DR KR KS;generalize w4.setCell ⟨P4,0,none⟩ (.int .i64 12)=w5 at *;have PR:=qaa PS.out;have QR:=qaa QS.out;have DR:=qaa DS.out;have KR:=qaa KT.out;clear PS QS DS KT;have HT:=qaa (qcl (by decide) DR.out L0.out);have hf:=qmh;go_wp2_with (fail);refine HT.out.mono ?_;rintro e' w6 ⟨u1,i1,e1,q1,rfl,d1,l1,h1,k1⟩;have DN:=qaa d1;have L1:=qaa l1;have KN:=qaa k1;clear d1 l1 h1 k1 HT;have PS:=qaa ((KN.out.block P4 (Yd PR.out) nP4).trans PR.out);have QS:=qaa ((KN.out.block Q (Yd QR.out) nQ).trans QR.out);have KT:=qaa (KR.out.trans KN.out);clear PR QR DR KR KN;have PR:=qaa PS.out;have QR:=qaa QS.out;have DR:=qaa DN.out;have KR:=qaa KT.out;clear PS QS DN KT;have g0:∃u,w6.cell? ⟨P4,1,none⟩=some u:=⟨_,by rw[Ye _ _ _ _ _ _ PR.out];rfl⟩;obtain⟨_,g0⟩:=g0;have f0:=Yf w6 P4 1 _ _ PR.out;go_upto_region 34 with fail
  clear g0 f0;have KS:Hid (Kept (fun k=>k=P4) w6 (w6.setCell ⟨P4,1,none⟩ (.string ⟨u1.t.toArray⟩))):=Kept.setCell (F:=fun k=>k=P4) (p:=⟨P4,1,none⟩) (Kept.refl _ _) rfl _;have PS:Hid ((w6.setCell ⟨P4,1,none⟩ (.string ⟨u1.t.toArray⟩)).heap[P4]? =some (.cells #[.int .i64 12,.string ⟨u1.t.toArray⟩,.string ⟨#[]⟩,.slice none 0 0,.slice none 0 0,.slice none 0 0,.slice none 0 0,.int .i64 z.p] 60 (0,0))):=by
   have:=qab PR.out 1 (.string ⟨u1.t.toArray⟩);simpa [Hid] using this
  have QS:=qaa ((KS.out.block Q (Yd QR.out) hl2.1).trans QR.out);have DS:=qaa (DR.out.kept KS.out hl2.2.1 hl2.2.2);have KT:Hid (Kept (fun k=>k=rp) w (w6.setCell ⟨P4,1,none⟩ (.string ⟨u1.t.toArray⟩))):=KR.out.fin KS.out (by have:=Bq.out;have:=Bi.out;omega);clear PR QR DR KR KS;generalize w6.setCell ⟨P4,1,none⟩ (.string ⟨u1.t.toArray⟩)=w8 at *;have PR:=qaa PS.out;have QR:=qaa QS.out;have DR:=qaa DS.out;have KR:=qaa KT.out;clear PS QS DS KT;clear hf;obtain⟨q0,q1,q2,q3,q4,q5,q6,q7⟩:=ld8 PR.out;obtain⟨⟨_,p0⟩,f0,⟨_,p1⟩,f1,⟨_,p2⟩,f2,⟨_,p3⟩,f3,⟨_,p4⟩,f4,⟨_,p5⟩,f5,⟨_,p6⟩,f6,⟨_,p7⟩,f7,Be,Bf⟩:=st8 QR.out (.int .i64 12) (.string ⟨u1.t.toArray⟩) (.string ⟨#[]⟩) (.slice none 0 0) (.slice none 0 0) (.slice none 0 0) (.slice none 0 0) (.int .i64 z.p);have Bg:=qaa Be;have KQ:=qaa Bf;clear Be Bf;go_wp2;clear q0 q1 q2 q3 q4 q5 q6 q7;clear p0 f0 p1 f1 p2 f2 p3 f3 p4 f4 p5 f5 p6 f6 p7 f7;generalize ((((((((w8.setCell ⟨Q,0,none⟩ (.int .i64 12)).setCell ⟨Q,1,none⟩ (.string ⟨u1.t.toArray⟩)).setCell ⟨Q,2,none⟩ (.string ⟨#[]⟩)).setCell ⟨Q,3,none⟩ (.slice none 0 0)).setCell ⟨Q,4,none⟩ (.slice none 0 0)).setCell ⟨Q,5,none⟩ (.slice none 0 0)).setCell ⟨Q,6,none⟩ (.slice none 0 0)).setCell ⟨Q,7,none⟩ (.int .i64 z.p))=w9 at *;obtain⟨q0,q1,q2,q3,q4,q5,q6,q7⟩:=ld8 Bg.out;refine Yg (by simp[results,Tryz.results152,go_sem,q0,q1,q2,q3,q4,q5,q6,q7];try rfl) rfl ?_;have hrq:¬rp=Q:=by have:=Bc.out;omega
  have Bv:¬g=Q:=by have:=Bc.out;omega
  refine⟨_,_,_,_,rfl,⟨_,_,_,_,_,_,_,_,_,_,_,_,_,_,_,_,rfl⟩,DR.out.kept KQ.out hrq Bv,KR.out.fin KQ.out (by have:=Bi.out;omega),?_⟩;rcases L1.out with⟨h1,h2,h3⟩|⟨h1,h2⟩
  ·exact .inl ⟨rfl,h1,h2,.mk 12 u1.t [] [] [] [] [] z.p,_,_,rfl,qaj.leaf w9 _ _ _ _ _,List.nodup_nil,h3⟩
  ·exact .inr ⟨h1,fun _=>h2,fun h=>absurd rfl h⟩
 by_cases a5:tt=[97,100,100,114]
 ·subst a5
  have Bw:Hid (x=qa0 Ts f (.mk 7 [] [] [] [] [] [] z.p) (i+1)):=Eb.out;clear Eb;go_upto_region 33 with fail
  have EX:Hid (x=qbp Ts f 5 (.mk 7 [] [] [] [] [] [] z.p) (i+1)):=Bw.out;clear Bw;have HT:=qaa (ql1 z Bp.out Df.out DR.out);have r0:w4.cell? ⟨PT,0,none⟩=some (.int .i64 z.k):=by rw[Ye _ _ _ _ _ _ TB.out];rfl
  have r2:w4.cell? ⟨PT,2,none⟩=some (.int .i64 z.n):=by rw[Ye _ _ _ _ _ _ TB.out];rfl
  have r3:w4.cell? ⟨PT,3,none⟩=some (.int .i64 z.a):=by rw[Ye _ _ _ _ _ _ TB.out];rfl
  have r4:w4.cell? ⟨PT,4,none⟩=some (.int .i64 z.b):=by rw[Ye _ _ _ _ _ _ TB.out];rfl
  have r5:w4.cell? ⟨PT,5,none⟩=some (.int .i64 z.p):=by rw[Ye _ _ _ _ _ _ TB.out];rfl
  go_wp2_with (fail);refine HT.out.mono ?_;rintro e' w5 ⟨v,i5,e5,qq,rfl,⟨k,nm,tx,a3,n3,c3,a4,n4,c4,a5,n5,c5,a6,n6,c6,p,rfl⟩,d5,k5,h5⟩;have D5:=qaa d5;have H5:=qaa h5;have QS:=qaa ((k5.block Q (Yd QR.out) nQ).trans QR.out);have KT:=qaa (KR.out.trans k5);have GU:Hid (Q<w4.heap.size):=Yd QR.out;clear r0 r2 r3 r4 r5 g1 d5 h5 k5 HT PR QR DR KR TB;obtain⟨⟨_,p0⟩,f0,⟨_,p1⟩,f1,⟨_,p2⟩,f2,⟨_,p3⟩,f3,⟨_,p4⟩,f4,⟨_,p5⟩,f5,⟨_,p6⟩,f6,⟨_,p7⟩,f7,Be,Bf⟩:=st8 QS.out (.int .i64 k) (.string nm) (.string tx) (.slice a3 n3 c3) (.slice a4 n4 c4) (.slice a5 n5 c5) (.slice a6 n6 c6) (.int .i64 p);have Bg:=qaa Be;have KQ:=qaa Bf;clear Be Bf;go_wp2;clear p0 f0 p1 f1 p2 f2 p3 f3 p4 f4 p5 f5 p6 f6 p7 f7;generalize ((((((((w5.setCell ⟨Q,0,none⟩ (.int .i64 k)).setCell ⟨Q,1,none⟩ (.string nm)).setCell ⟨Q,2,none⟩ (.string tx)).setCell ⟨Q,3,none⟩ (.slice a3 n3 c3)).setCell ⟨Q,4,none⟩ (.slice a4 n4 c4)).setCell ⟨Q,5,none⟩ (.slice a5 n5 c5)).setCell ⟨Q,6,none⟩ (.slice a6 n6 c6)).setCell ⟨Q,7,none⟩ (.int .i64 p))=w9 at *;obtain⟨q0,q1,q2,q3,q4,q5,q6,q7⟩:=ld8 Bg.out;refine Yg (by simp[results,Tryz.results152,go_sem,q0,q1,q2,q3,q4,q5,q6,q7];try rfl) rfl ?_;have hrq:¬rp=Q:=by have:=Bc.out;omega
  have Bv:¬g=Q:=by have:=Bc.out;omega
  refine⟨_,i5,e5,qq,rfl,⟨_,_,_,_,_,_,_,_,_,_,_,_,_,_,_,_,rfl⟩,D5.out.kept KQ.out hrq Bv,KT.out.fin KQ.out (by have:=Bi.out;omega),?_⟩;rcases H5.out with⟨h1,h2,c,vs,bs,h3,h4,h6,h7⟩|⟨h1,h2⟩
  ·exact .inl ⟨rfl,h1,h2,c,vs,bs,h3,h4.frame KQ.out (fun j hj=>by have:=GU.out;rw[hj];exact this) (by have:=GU.out;have:=Bi.out;omega),h6,by rw[EX.out];exact h7⟩
  ·exact .inr ⟨h1,fun _=>by rw[EX.out];exact h2,fun h=>absurd rfl h⟩
 by_cases a6:tt=[112,111,114,116]
 ·subst a6
  have Bw:Hid (x=qa0 Ts f (.mk 8 [] [] [] [] [] [] z.p) (i+1)):=Eb.out;clear Eb;go_upto_region 33 with fail
  have EX:Hid (x=qbp Ts f 4 (.mk 8 [] [] [] [] [] [] z.p) (i+1)):=Bw.out;clear Bw;have HT:=qaa (ql2 z Bp.out Df.out DR.out);have r0:w4.cell? ⟨PT,0,none⟩=some (.int .i64 z.k):=by rw[Ye _ _ _ _ _ _ TB.out];rfl
  have r2:w4.cell? ⟨PT,2,none⟩=some (.int .i64 z.n):=by rw[Ye _ _ _ _ _ _ TB.out];rfl
  have r3:w4.cell? ⟨PT,3,none⟩=some (.int .i64 z.a):=by rw[Ye _ _ _ _ _ _ TB.out];rfl
  have r4:w4.cell? ⟨PT,4,none⟩=some (.int .i64 z.b):=by rw[Ye _ _ _ _ _ _ TB.out];rfl
  have r5:w4.cell? ⟨PT,5,none⟩=some (.int .i64 z.p):=by rw[Ye _ _ _ _ _ _ TB.out];rfl
  go_wp2_with (fail);refine HT.out.mono ?_;rintro e' w5 ⟨v,i5,e5,qq,rfl,⟨k,nm,tx,a3,n3,c3,a4,n4,c4,a5,n5,c5,a6,n6,c6,p,rfl⟩,d5,k5,h5⟩;have D5:=qaa d5;have H5:=qaa h5;have QS:=qaa ((k5.block Q (Yd QR.out) nQ).trans QR.out);have KT:=qaa (KR.out.trans k5);have GU:Hid (Q<w4.heap.size):=Yd QR.out;clear r0 r2 r3 r4 r5 g1 d5 h5 k5 HT PR QR DR KR TB;obtain⟨⟨_,p0⟩,f0,⟨_,p1⟩,f1,⟨_,p2⟩,f2,⟨_,p3⟩,f3,⟨_,p4⟩,f4,⟨_,p5⟩,f5,⟨_,p6⟩,f6,⟨_,p7⟩,f7,Be,Bf⟩:=st8 QS.out (.int .i64 k) (.string nm) (.string tx) (.slice a3 n3 c3) (.slice a4 n4 c4) (.slice a5 n5 c5) (.slice a6 n6 c6) (.int .i64 p);have Bg:=qaa Be;have KQ:=qaa Bf;clear Be Bf;go_wp2;clear p0 f0 p1 f1 p2 f2 p3 f3 p4 f4 p5 f5 p6 f6 p7 f7;generalize ((((((((w5.setCell ⟨Q,0,none⟩ (.int .i64 k)).setCell ⟨Q,1,none⟩ (.string nm)).setCell ⟨Q,2,none⟩ (.string tx)).setCell ⟨Q,3,none⟩ (.slice a3 n3 c3)).setCell ⟨Q,4,none⟩ (.slice a4 n4 c4)).setCell ⟨Q,5,none⟩ (.slice a5 n5 c5)).setCell ⟨Q,6,none⟩ (.slice a6 n6 c6)).setCell ⟨Q,7,none⟩ (.int .i64 p))=w9 at *;obtain⟨q0,q1,q2,q3,q4,q5,q6,q7⟩:=ld8 Bg.out;refine Yg (by simp[results,Tryz.results152,go_sem,q0,q1,q2,q3,q4,q5,q6,q7];try rfl) rfl ?_;have hrq:¬rp=Q:=by have:=Bc.out;omega
  have Bv:¬g=Q:=by have:=Bc.out;omega
  refine⟨_,i5,e5,qq,rfl,⟨_,_,_,_,_,_,_,_,_,_,_,_,_,_,_,_,rfl⟩,D5.out.kept KQ.out hrq Bv,KT.out.fin KQ.out (by have:=Bi.out;omega),?_⟩;rcases H5.out with⟨h1,h2,c,vs,bs,h3,h4,h6,h7⟩|⟨h1,h2⟩
  ·exact .inl ⟨rfl,h1,h2,c,vs,bs,h3,h4.frame KQ.out (fun j hj=>by have:=GU.out;rw[hj];exact this) (by have:=GU.out;have:=Bi.out;omega),h6,by rw[EX.out];exact h7⟩
  ·exact .inr ⟨h1,fun _=>by rw[EX.out];exact h2,fun h=>absurd rfl h⟩
 by_cases a7:tt=[109,101,116,104,111,100]
 ·subst a7
  have Bw:Hid (x=qa0 Ts f (.mk 9 [] [] [] [] [] [] z.p) (i+1)):=Eb.out;clear Eb;go_upto_region 33 with fail
  have EX:Hid (x=qbp Ts f 3 (.mk 9 [] [] [] [] [] [] z.p) (i+1)):=Bw.out;clear Bw;have HT:=qaa (qir z Bp.out Df.out DR.out);have r0:w4.cell? ⟨PT,0,none⟩=some (.int .i64 z.k):=by rw[Ye _ _ _ _ _ _ TB.out];rfl
  have r2:w4.cell? ⟨PT,2,none⟩=some (.int .i64 z.n):=by rw[Ye _ _ _ _ _ _ TB.out];rfl
  have r3:w4.cell? ⟨PT,3,none⟩=some (.int .i64 z.a):=by rw[Ye _ _ _ _ _ _ TB.out];rfl
  have r4:w4.cell? ⟨PT,4,none⟩=some (.int .i64 z.b):=by rw[Ye _ _ _ _ _ _ TB.out];rfl
  have r5:w4.cell? ⟨PT,5,none⟩=some (.int .i64 z.p):=by rw[Ye _ _ _ _ _ _ TB.out];rfl
  go_wp2_with (fail);refine HT.out.mono ?_;rintro e' w5 ⟨v,i5,e5,qq,rfl,⟨k,nm,tx,a3,n3,c3,a4,n4,c4,a5,n5,c5,a6,n6,c6,p,rfl⟩,d5,k5,h5⟩;have D5:=qaa d5;have H5:=qaa h5;have QS:=qaa ((k5.block Q (Yd QR.out) nQ).trans QR.out);have KT:=qaa (KR.out.trans k5);have GU:Hid (Q<w4.heap.size):=Yd QR.out;clear r0 r2 r3 r4 r5 g1 d5 h5 k5 HT PR QR DR KR TB;obtain⟨⟨_,p0⟩,f0,⟨_,p1⟩,f1,⟨_,p2⟩,f2,⟨_,p3⟩,f3,⟨_,p4⟩,f4,⟨_,p5⟩,f5,⟨_,p6⟩,f6,⟨_,p7⟩,f7,Be,Bf⟩:=st8 QS.out (.int .i64 k) (.string nm) (.string tx) (.slice a3 n3 c3) (.slice a4 n4 c4) (.slice a5 n5 c5) (.slice a6 n6 c6) (.int .i64 p);have Bg:=qaa Be;have KQ:=qaa Bf;clear Be Bf;go_wp2;clear p0 f0 p1 f1 p2 f2 p3 f3 p4 f4 p5 f5 p6 f6 p7 f7;generalize ((((((((w5.setCell ⟨Q,0,none⟩ (.int .i64 k)).setCell ⟨Q,1,none⟩ (.string nm)).setCell ⟨Q,2,none⟩ (.string tx)).setCell ⟨Q,3,none⟩ (.slice a3 n3 c3)).setCell ⟨Q,4,none⟩ (.slice a4 n4 c4)).setCell ⟨Q,5,none⟩ (.slice a5 n5 c5)).setCell ⟨Q,6,none⟩ (.slice a6 n6 c6)).setCell ⟨Q,7,none⟩ (.int .i64 p))=w9 at *;obtain⟨q0,q1,q2,q3,q4,q5,q6,q7⟩:=ld8 Bg.out;refine Yg (by simp[results,Tryz.results152,go_sem,q0,q1,q2,q3,q4,q5,q6,q7];try rfl) rfl ?_;have hrq:¬rp=Q:=by have:=Bc.out;omega
  have Bv:¬g=Q:=by have:=Bc.out;omega
  refine⟨_,i5,e5,qq,rfl,⟨_,_,_,_,_,_,_,_,_,_,_,_,_,_,_,_,rfl⟩,D5.out.kept KQ.out hrq Bv,KT.out.fin KQ.out (by have:=Bi.out;omega),?_⟩;rcases H5.out with⟨h1,h2,c,vs,bs,h3,h4,h6,h7⟩|⟨h1,h2⟩
  ·exact .inl ⟨rfl,h1,h2,c,vs,bs,h3,h4.frame KQ.out (fun j hj=>by have:=GU.out;rw[hj];exact this) (by have:=GU.out;have:=Bi.out;omega),h6,by rw[EX.out];exact h7⟩
  ·exact .inr ⟨h1,fun _=>by rw[EX.out];exact h2,fun h=>absurd rfl h⟩
 have t0:(tt==[116,114,117,101])=false:=by simpa using a0
 have t1:(tt==[102,97,108,115,101])=false:=by simpa using a1
 have t2:(tt==[112,97,116,104])=false:=by simpa using a2
 have t3:(tt==[104,101,97,100,101,114])=false:=by simpa using a3
 have t4:(tt==[104,97,115])=false:=by simpa using a4
 have t5:(tt==[97,100,100,114])=false:=by simpa using a5
 have t6:(tt==[112,111,114,116])=false:=by simpa using a6
 have t7:(tt==[109,101,116,104,111,100])=false:=by simpa using a7
 have Bw:Hid (x=.bad 90 z.p):=by
  unfold Hid;rw[Eb.out,ql3 (fun s hs=>by
   simp only[List.mem_cons,List.not_mem_nil,or_false] at hs;rcases hs with rfl|rfl|rfl|rfl|rfl|rfl|rfl|rfl
   ·exact a0
   ·exact a1
   ·exact a2
   ·exact a3
   ·exact a4
   ·exact a5
   ·exact a6
   ·exact a7),if_pos rfl]
 clear Eb a0 a1 a2 a3 a4 a5 a6 a7;go_upto_region 12 with fail
 clear t0 t1 t2 t3 t4 t5 t6 t7 g1;obtain⟨_,c1⟩:=DR.out.two;have f1:=Yf w4 rp 1 _ _ DR.out.blk;have fw:IntKind.i64.wrap (i:Int)=(i:Int):=by have:=DR.out.few;have:=HN.out;simp[IntKind.wrap,IntKind.bits,IntKind.signed];omega
 have fw2:wrap64 (i:Int)=(i:Int):=by have:=DR.out.few;have:=HN.out;unfold wrap64;omega
 go_upto_region 13 with fail
 clear c1 f1 fw fw2;have DB:Hid (DpA (w4.setCell ⟨rp,1,none⟩ (.int .i64 (i:Nat))) base rp g cap Ts i 0 0):=DR.out.set (by have:=HN.out;omega) (by
  have:=qab DR.out.blk 1 (.int .i64 (i:Nat));simpa using this)
 have K2:Hid (Kept (fun k=>k=rp) w4 (w4.setCell ⟨rp,1,none⟩ (.int .i64 (i:Nat)))):=Kept.setCell (F:=fun k=>k=rp) (p:=⟨rp,1,none⟩) (Kept.refl _ _) rfl _;have PS:=qaa ((K2.out.block P4 (Yd PR.out) nP4).trans PR.out);have QS:=qaa ((K2.out.block Q (Yd QR.out) nQ).trans QR.out);have KT:=qaa (KR.out.trans K2.out);clear PR QR DR KR K2;have PR:=qaa PS.out;have QR:=qaa QS.out;have DR:=qaa DB.out;have KR:=qaa KT.out;clear PS QS DB KT;generalize w4.setCell ⟨rp,1,none⟩ (.int .i64 (i:Nat))=w5 at *;have HT:=qaa (qcr DR.out);rw[←HZ.out] at HT;go_upto_region 34 with(go_at_call 55;refine HT.out.mono ?_;rintro e' w6 ⟨rfl,d1,k1⟩;have DN:=qaa d1;have KN:=qaa k1;clear d1 k1)
 clear HT;have PS:=qaa ((KN.out.block P4 (Yd PR.out) nP4).trans PR.out);have QS:=qaa ((KN.out.block Q (Yd QR.out) nQ).trans QR.out);have KT:=qaa (KR.out.trans KN.out);clear PR QR DR KR KN;have PR:=qaa PS.out;have QR:=qaa QS.out;have DR:=qaa DN.out;have KR:=qaa KT.out;clear PS QS DN KT;obtain⟨q0,q1,q2,q3,q4,q5,q6,q7⟩:=ld8 PR.out;obtain⟨⟨_,p0⟩,f0,⟨_,p1⟩,f1,⟨_,p2⟩,f2,⟨_,p3⟩,f3,⟨_,p4⟩,f4,⟨_,p5⟩,f5,⟨_,p6⟩,f6,⟨_,p7⟩,f7,Be,Bf⟩:=st8 QR.out (.int .i64 0) (.string ⟨#[]⟩) (.string ⟨#[]⟩) (.slice none 0 0) (.slice none 0 0) (.slice none 0 0) (.slice none 0 0) (.int .i64 z.p);have Bg:=qaa Be;have KQ:=qaa Bf;clear Be Bf;go_wp2;clear q0 q1 q2 q3 q4 q5 q6 q7;clear p0 f0 p1 f1 p2 f2 p3 f3 p4 f4 p5 f5 p6 f6 p7 f7;generalize ((((((((w6.setCell ⟨Q,0,none⟩ (.int .i64 0)).setCell ⟨Q,1,none⟩ (.string ⟨#[]⟩)).setCell ⟨Q,2,none⟩ (.string ⟨#[]⟩)).setCell ⟨Q,3,none⟩ (.slice none 0 0)).setCell ⟨Q,4,none⟩ (.slice none 0 0)).setCell ⟨Q,5,none⟩ (.slice none 0 0)).setCell ⟨Q,6,none⟩ (.slice none 0 0)).setCell ⟨Q,7,none⟩ (.int .i64 z.p))=w9 at *;obtain⟨q0,q1,q2,q3,q4,q5,q6,q7⟩:=ld8 Bg.out;refine Yg (by simp[results,Tryz.results152,go_sem,q0,q1,q2,q3,q4,q5,q6,q7];try rfl) rfl ?_;have hrq:¬rp=Q:=by have:=Bc.out;omega
 have Bv:¬g=Q:=by have:=Bc.out;omega
 refine⟨_,_,_,_,rfl,⟨_,_,_,_,_,_,_,_,_,_,_,_,_,_,_,_,rfl⟩,DR.out.kept KQ.out hrq Bv,KR.out.fin KQ.out (by have:=Bi.out;omega),?_⟩;exact .inr ⟨by decide,fun _=>Bw.out,fun h=>absurd rfl h⟩
theorem ql4 {Ts:List Tk} {f i j:Nat} {c:CT} (h:qdz Ts f i=.ok c j):c.kids=[]:=by
 unfold qdz at h;split at h
 ·cases h;rfl
 ·split at h
  ·cases h
  ·exact qgp h
theorem ql5 {w:World} {base rp g cap:Nat} {Ts:List Tk} {f i:Nat} {e q:Int} (hg:GdT Ts) (hf:e=0→Ts.length-(i+1)<f) (hq:e=0→q=0) (h:DpA w base rp g cap Ts i e q):Calls Tryz.prog 152 #[.pointer (some ⟨rp,0,none⟩)] w (qs4 base rp g cap Ts w e q (qdz Ts f i)):=by
 by_cases he:e=0
 ·subst he
  obtain rfl:=hq rfl;by_cases h1:(tok Ts i).k=1
  ·exact qjv hg (hf rfl) h1 h
  ·by_cases h2:(tok Ts i).k=2
   ·exact qjs h2 h
   ·exact qjt h1 h2 h
 ·exact qju he h
def qdw (base rp g cap:Nat) (Ts:List Tk) (w:World) (e q:Int) (x:PR CT) (e':Ending) (w':World):Prop:=
 ∃v d i' e1 q1,e'=.returned (.tuple #[v,.int .i64 d])∧Jk v∧DpA w' base rp g cap Ts i' e1 q1∧Kept (fun k=>k=rp) w w'∧((e=0∧e1=0∧q1=0∧∃c vs bs,v=.agg vs.toArray∧d=(dpt c:Nat)∧qaj w' w.heap.size c vs bs∧bs.Nodup∧x=.ok c i')∨(e1≠0∧(e=0→x=.bad e1 q1)∧(e≠0→e1=e∧q1=q)))
theorem qaj.one {w w':World} {base b1 G:Nat} {kind p:Int} {c:CT} {a0 a1 a2 a3 a4 a5 a6 a7:Value} {bs:List Nat} (hc:qaj w b1 c [a0,a1,a2,a3,a4,a5,a6,a7] bs) (hn:bs.Nodup) (hb:base≤b1) (x:Below w.heap.size w w') (hG:w.heap.size≤G) (h0:base≤w.heap.size)
 (hg:w'.heap[G]? =some (.cells #[a0,a1,a2,a3,a4,a5,a6,a7] 60 (0,0))):
 qaj w' base (.mk kind [] [] [] [] [] [c] p) [.int .i64 kind,.string ⟨#[]⟩,.string ⟨#[]⟩,.slice none 0 0,.slice none 0 0,.slice none 0 0,.slice (some ⟨G,0,none⟩) 1 1,.int .i64 p] ([G]++bs)∧([G]++bs).Nodup:=by
 have hl:=qaj.lt hc;refine⟨?_,List.nodup_cons.2 ⟨fun hm=>by have:=(hl G hm).2;omega,hn⟩⟩;unfold qaj;exact⟨_,_,_,_,[a0,a1,a2,a3,a4,a5,a6,a7],bs,rfl,qau w' base 47 2,qau w' base 68 2,qau w' base 9 1,⟨rfl,.inr ⟨G,1,_,rfl,by omega,hg,Nat.le_refl _,by unfold maxLen;omega,rfl,rfl⟩⟩,⟨_,bs,[],[],by simp,by simp,qaj.mono hb _ _ _ (hc.below x),rfl,rfl⟩,rfl⟩
theorem qgd {w:World} {base rp g cap:Nat} {Ts:List Tk} {i:Nat} {e q:Int} {k:Int} {nm tx:ByteArray} {a3 a4 a5 a6:Option Addr} {n3 c3 n4 c4 n5 c5 n6 c6:Nat} {p d:Int} (h:DpA w base rp g cap Ts i e q) (hq:e=0→q=0):
 Calls Tryz.prog 88 #[.pointer (some ⟨rp,0,none⟩),.agg #[.int .i64 k,.string nm,.string tx,.slice a3 n3 c3,.slice a4 n4 c4,.slice a5 n5 c5,.slice a6 n6 c6,.int .i64 p],.int .i64 d] w fun e' w'=>e'=.returned (.tuple #[.agg #[.int .i64 k,.string nm,.string tx,.slice a3 n3 c3,.slice a4 n4 c4,.slice a5 n5 c5,.slice a6 n6 c6,.int .i64 p],.int .i64 d])∧∃e1 q1,DpA w' base rp g cap Ts i e1 q1∧Kept (fun k=>k=rp) w w'∧(e≠0→e1=e∧q1=q)∧(e=0→d≤16→e1=0∧q1=0)∧(e=0→¬d≤16→e1=91∧q1=p):=by
 by_cases he:e=0
 ·subst he
  obtain rfl:=hq rfl;by_cases hd:d≤16
  ·refine(qqg hd).mono ?_
   rintro e' w' ⟨h1,h2⟩;exact⟨h1,0,0,h.below h2,Kept.of_below h2,fun h=>absurd rfl h,fun _ _=>⟨rfl,rfl⟩,fun _ h=>absurd hd h⟩
  ·refine(qqh h hd).mono ?_
   rintro e' w' ⟨h1,h2,h3⟩;exact⟨h1,91,p,h2,h3,fun h=>absurd rfl h,fun _ h=>absurd h hd,fun _ _=>⟨rfl,rfl⟩⟩
 ·refine(ql0 h he).mono ?_
  rintro e' w' ⟨h1,h2⟩;exact⟨h1,e,q,h.below h2,Kept.of_below h2,fun _=>⟨rfl,rfl⟩,fun h=>absurd h he,fun h=>absurd h he⟩
end Go.Proofs.YtlmhofjiobmodaaGreatDoor

