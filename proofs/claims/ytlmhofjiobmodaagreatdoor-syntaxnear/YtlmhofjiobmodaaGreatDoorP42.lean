/-
  The document's first by its contract: what has no others within. Condition: the tokens are a scanner's.
-/
import Derived.Test.YtlmhofjiobmodaaGreatDoorP40
import Derived.Test.YtlmhofjiobmodaaGreatDoorP41
set_option maxRecDepth 100000
set_option maxHeartbeats 16000000
namespace Go.Proofs.YtlmhofjiobmodaaGreatDoor
open Go.RowKit Go.Lib
def qdz (Ts:List Tk) (f i:Nat):PR CT:=
 if (tok Ts i).k=2 then .ok (.mk 3 (tok Ts i).t [] [] [] [] [] (tok Ts i).p) (i+1)
 else if qbd Ts i=0 then .bad 90 (tok Ts i).p
 else qa0 Ts f (.mk (qbd Ts i:Nat) [] [] [] [] [] [] (tok Ts i).p) (i+1)
def qs4 (base rp g cap:Nat) (Ts:List Tk) (w:World) (e q:Int) (x:PR CT) (e':Ending) (w':World):Prop:=
 ∃v i' e1 q1,e'=.returned v∧Jk v∧DpA w' base rp g cap Ts i' e1 q1∧Kept (fun k=>k=rp) w w'∧((e=0∧e1=0∧q1=0∧∃c vs bs,v=.agg vs.toArray∧qaj w' w.heap.size c vs bs∧bs.Nodup∧x=.ok c i')∨(e1≠0∧(e=0→x=.bad e1 q1)∧(e≠0→e1=e∧q1=q)))
theorem ql3 {t:By} (h:∀s∈[qg3,qd7,qmf,qfm,qsg,qme,qg4,qfl],¬t=s):qjr t=0:=by
 simp only[List.mem_cons,List.not_mem_nil,or_false,forall_eq_or_imp,forall_eq] at h;obtain⟨h1,h2,h3,h4,h5,h6,h7,h8⟩:=h;unfold qjr;rw[if_neg h1,if_neg h2,if_neg h6,if_neg h7,if_neg h8,if_neg h3,if_neg h4,if_neg h5]
theorem qjs {w:World} {base rp g cap:Nat} {Ts:List Tk} {f i:Nat} (h2:(tok Ts i).k=2) (h:DpA w base rp g cap Ts i 0 0):
 Calls Tryz.prog 152 #[.pointer (some ⟨rp,0,none⟩)] w (qs4 base rp g cap Ts w 0 0 (qdz Ts f i)):=by
 obtain⟨x,hx⟩:∃x,x=qdz Ts f i:=⟨_,rfl⟩;rw[←hx];obtain⟨z,hz⟩:∃z,z=tok Ts i:=⟨_,rfl⟩;have Bw:Hid (x=.ok (.mk 3 z.t [] [] [] [] [] z.p) (i+1)):=by unfold Hid qdz at *;rw[hx,if_pos h2,←hz]
 have HN:Hid (i+1<Ts.length):=h.next (by rw[h2];decide);rw[←hz] at h2;have b2:(z.k !=2)=false:=by simp[h2]
 have b3:(z.k==2)=true:=by simp[h2]
 have HZ:=qaa hz;obtain⟨Q,hQ⟩:∃Q,Q=w.heap.size:=⟨_,rfl⟩;obtain⟨W,hW⟩:∃W,W=w.alloc (.cells #[.int .i64 0,.string ⟨#[]⟩,.string ⟨#[]⟩,.slice none 0 0,.slice none 0 0,.slice none 0 0,.slice none 0 0,.int .i64 0] 60):=⟨_,rfl⟩;have X0:=qaa (show Below w.heap.size w W by rw[hW];exact al Yj _);have Q0:=qaa (show W.heap[Q]? =some (.cells #[.int .i64 0,.string ⟨#[]⟩,.string ⟨#[]⟩,.slice none 0 0,.slice none 0 0,.slice none 0 0,.slice none 0 0,.int .i64 0] 60 (0,0)) by rw[hW,hQ];exact Yh w _);have D:=qaa (h.below X0.out);have Bi:=qaa hQ;have Bc:Hid (rp<Q∧g<Q):=by have:=h.gl;unfold Hid;omega
 have HB2:=qaa b2;have HB3:=qaa b3;clear hx hz h b2 h2 b3;go_enter Tryz.func152,Tryz.ntmps152;go_upto_region 1 with fail
 rw[←hQ,←hW];clear hQ hW;have HQ:Hid (∀V,Below W.heap.size W V→(V.cell? ⟨rp,0,none⟩=some (.slice (some ⟨g,0,none⟩) Ts.length cap)∧V.cell? ⟨rp,1,none⟩=some (.int .i64 (i:Nat)))∧V.cell? ⟨g,i*6,none⟩=some (.int .i64 z.k)∧V.cell? ⟨g,i*6+1,none⟩=some (.string ⟨z.t.toArray⟩)∧V.cell? ⟨g,i*6+2,none⟩=some (.int .i64 z.n)∧V.cell? ⟨g,i*6+3,none⟩=some (.int .i64 z.a)∧V.cell? ⟨g,i*6+4,none⟩=some (.int .i64 z.b)∧V.cell? ⟨g,i*6+5,none⟩=some (.int .i64 z.p)):=fun V y=>by
  have h:=D.out.below y;rw[HZ.out];exact⟨h.two,h.cells⟩
 have hlt:(i:Int)<Ts.length:=by have:=D.out.lt;omega
 refine qam (S:=fun V=>Below W.heap.size W V) 11 (by kernel_rfl) ?_;have Bb:Hid (Below W.heap.size W W.drew):=Yj.drew;generalize W.drew=vd at *;refine qac.tk 0 rfl 5 Bb.out (fun a b=>by obtain⟨⟨_,_⟩,_,_,_,_,_,_⟩:=HQ.out a b;go_simp;first|done|rfl) ?_
 try simp only[Act.put,Ya,Yb,Yc]
 refine qac.tk 1 rfl 6 Bb.out (fun a b=>by obtain⟨⟨_,_⟩,_,_,_,_,_,_⟩:=HQ.out a b;go_simp;first|done|rfl) ?_
 try simp only[Act.put,Ya,Yb,Yc]
 refine qac.tk 2 rfl 7 Bb.out (fun a b=>by obtain⟨⟨_,_⟩,_,_,_,_,_,_⟩:=HQ.out a b;go_simp;first|done|rfl) ?_
 try simp only[Act.put,Ya,Yb,Yc]
 refine qac.tk 3 rfl 8 Bb.out (fun a b=>by obtain⟨⟨_,_⟩,_,_,_,_,_,_⟩:=HQ.out a b;go_simp;first|done|rfl) ?_
 try simp only[Act.put,Ya,Yb,Yc]
 refine qac.tk 4 rfl 9 Bb.out (fun a b=>by obtain⟨⟨_,_⟩,_,_,_,_,_,_⟩:=HQ.out a b;go_simp;first|done|rfl) ?_
 try simp only[Act.put,Ya,Yb,Yc]
 refine qac.tk 5 rfl 10 Bb.out (fun a b=>by obtain⟨⟨_,_⟩,_,_,_,_,_,_⟩:=HQ.out a b;go_simp;first|done|rfl) ?_
 try simp only[Act.put,Ya,Yb,Yc]
 refine qac.tk 6 rfl 11 Bb.out (fun a b=>by obtain⟨⟨_,_⟩,_,_,_,_,_,_⟩:=HQ.out a b;go_simp;first|done|rfl) ?_
 try simp only[Act.put,Ya,Yb,Yc]
 refine qac.tk 7 rfl 12 Bb.out (fun a b=>by obtain⟨⟨_,_⟩,_,_,_,_,_,_⟩:=HQ.out a b;go_simp;first|done|rfl) ?_
 try simp only[Act.put,Ya,Yb,Yc]
 refine qac.tk 8 rfl 13 Bb.out (fun a b=>by obtain⟨⟨_,_⟩,_,_,_,_,_,_⟩:=HQ.out a b;go_simp;first|done|rfl) ?_
 try simp only[Act.put,Ya,Yb,Yc]
 refine qac.tk 9 rfl 14 Bb.out (fun a b=>by obtain⟨⟨_,_⟩,_,_,_,_,_,_⟩:=HQ.out a b;go_simp;first|done|rfl) ?_
 try simp only[Act.put,Ya,Yb,Yc]
 have BL:Hid (Below W.heap.size W (vd.alloc (.cells #[.int .i64 0,.string ⟨#[]⟩,.int .i64 0,.int .i64 0,.int .i64 0,.int .i64 0] 49))):=al Bb.out _;refine qac.stq 10 rfl fun K hK=>?_
 go_simp;refine hK _ _ BL.out ?_;clear hK K
 try simp only[Act.put,Ya,Yb,Yc]
 refine qac.lst rfl fun K hK=>?_
 go_simp;refine hK _ _ ?_;clear hK K hlt BL;have XT:Hid (Below W.heap.size W (vd.alloc (.cells #[.int .i64 z.k,.string ⟨z.t.toArray⟩,.int .i64 z.n,.int .i64 z.a,.int .i64 z.b,.int .i64 z.p] 49))):=al Bb.out _;have PB:=qaa (Yh vd (.cells #[.int .i64 z.k,.string ⟨z.t.toArray⟩,.int .i64 z.n,.int .i64 z.a,.int .i64 z.b,.int .i64 z.p] 49));obtain⟨PT,hPT⟩:∃P,P=vd.heap.size:=⟨_,rfl⟩;have EE:Hid (W.heap.size≤PT):=by rw[hPT];exact Bb.out.size
 rw[←hPT] at PB
 try rw[←hPT]
 clear HQ Bb hPT;generalize vd.alloc (.cells #[.int .i64 z.k,.string ⟨z.t.toArray⟩,.int .i64 z.n,.int .i64 z.a,.int .i64 z.b,.int .i64 z.p] 49)=wt at *;have D1:=qaa (D.out.below XT.out);have Q1:=qaa ((XT.out.block Q (Yd Q0.out)).trans Q0.out);have XA:=qaa (bt X0.out XT.out Yi);have nQ:Q≠rp:=by have:=Bc.out;omega
 clear D Q0 X0 XT;have g5:wt.cell? ⟨PT,5,none⟩=some (.int .i64 z.p):=by rw[Ye _ _ _ _ _ _ PB.out];rfl
 have X2:Hid (Below wt.heap.size wt (wt.alloc (.cells #[.int .i64 0,.string ⟨#[]⟩,.string ⟨#[]⟩,.slice none 0 0,.slice none 0 0,.slice none 0 0,.slice none 0 0,.int .i64 z.p] 60))):=al Yj _;have P2:=qaa (Yh wt (.cells #[.int .i64 0,.string ⟨#[]⟩,.string ⟨#[]⟩,.slice none 0 0,.slice none 0 0,.slice none 0 0,.slice none 0 0,.int .i64 z.p] 60));go_upto_region 3 with fail
 clear g5;obtain⟨P4,hP4⟩:∃P4,P4=wt.heap.size:=⟨_,rfl⟩;rw[←hP4] at P2;rw[←hP4];have Bq:Hid (Q<P4∧PT<P4):=by have:=Yd Q1.out;have:=Yd PB.out;unfold Hid;omega
 have DR:=qaa (D1.out.below X2.out);have QR:=qaa ((X2.out.block Q (Yd Q1.out)).trans Q1.out);have TB:=qaa ((X2.out.block PT (Yd PB.out)).trans PB.out);have XB:=qaa (bt XA.out X2.out Yi);have PR:=qaa P2.out;have KR:Hid (Kept (fun k=>k=rp) w (wt.alloc (.cells #[.int .i64 0,.string ⟨#[]⟩,.string ⟨#[]⟩,.slice none 0 0,.slice none 0 0,.slice none 0 0,.slice none 0 0,.int .i64 z.p] 60))):=Kept.of_below XB.out;clear hP4 D1 Q1 PB XA X2 P2;generalize wt.alloc (.cells #[.int .i64 0,.string ⟨#[]⟩,.string ⟨#[]⟩,.slice none 0 0,.slice none 0 0,.slice none 0 0,.slice none 0 0,.int .i64 z.p] 60)=w2 at *;have nP4:P4≠rp:=by have:=Bc.out;have:=Bq.out;omega
 have nPT:PT≠rp:=fun e=>qar TB.out DR.out.blk (by decide) e
 have hl2:Q≠P4∧rp≠P4∧g≠P4:=by have:=Bc.out;have:=Bq.out;exact⟨by omega,by omega,by omega⟩
 have ge:=DR.out.four.2.2.1;have g0:w2.cell? ⟨PT,0,none⟩=some (.int .i64 z.k):=by rw[Ye _ _ _ _ _ _ TB.out];rfl
 have b2:=HB2.out;go_upto_region 6 with fail
 clear ge b2;obtain⟨_,c1⟩:=DR.out.two;have f1:=Yf w2 rp 1 _ _ DR.out.blk;have fw:IntKind.i64.wrap ((i:Int)+1)=(i:Int)+1:=by have:=DR.out.few;have:=HN.out;simp[IntKind.wrap,IntKind.bits,IntKind.signed];omega
 go_upto_region 7 with fail
 clear c1 f1 fw g0;have DN:=qaa (DR.out.step HN.out);have K2:Hid (Kept (fun k=>k=rp) w2 (w2.setCell ⟨rp,1,none⟩ (.int .i64 ((i:Int)+1)))):=Kept.setCell (F:=fun k=>k=rp) (p:=⟨rp,1,none⟩) (Kept.refl _ _) rfl _;have Nh:=qaa ((K2.out.block PT (Yd TB.out) nPT).trans TB.out);have PS:=qaa ((K2.out.block P4 (Yd PR.out) nP4).trans PR.out);have QS:=qaa ((K2.out.block Q (Yd QR.out) nQ).trans QR.out);have KT:=qaa (KR.out.trans K2.out);clear PR QR DR KR K2;have PR:=qaa PS.out;have QR:=qaa QS.out;have DR:=qaa DN.out;have KR:=qaa KT.out;clear PS QS DN KT;generalize w2.setCell ⟨rp,1,none⟩ (.int .i64 ((i:Int)+1))=w4 at *;have g0:w4.cell? ⟨PT,0,none⟩=some (.int .i64 z.k):=by rw[Ye _ _ _ _ _ _ Nh.out];rfl
 have b3:=HB3.out;go_upto_region 8 with fail
 clear g0 b3;have nTP:PT≠P4:=by have:=Bq.out;omega
 have g0:∃u,w4.cell? ⟨P4,0,none⟩=some u:=⟨_,by rw[Ye _ _ _ _ _ _ PR.out];rfl⟩;obtain⟨_,g0⟩:=g0;have f0:=Yf w4 P4 0 _ _ PR.out;go_upto_region 9 with fail
 clear g0 f0;have KS:Hid (Kept (fun k=>k=P4) w4 (w4.setCell ⟨P4,0,none⟩ (.int .i64 3))):=Kept.setCell (F:=fun k=>k=P4) (p:=⟨P4,0,none⟩) (Kept.refl _ _) rfl _;have PS:Hid ((w4.setCell ⟨P4,0,none⟩ (.int .i64 3)).heap[P4]? =some (.cells #[.int .i64 3,.string ⟨#[]⟩,.string ⟨#[]⟩,.slice none 0 0,.slice none 0 0,.slice none 0 0,.slice none 0 0,.int .i64 z.p] 60 (0,0))):=by
  have:=qab PR.out 0 (.int .i64 3);simpa [Hid] using this
 have QS:=qaa ((KS.out.block Q (Yd QR.out) hl2.1).trans QR.out);have DS:=qaa (DR.out.kept KS.out hl2.2.1 hl2.2.2);have KT:Hid (Kept (fun k=>k=rp) w (w4.setCell ⟨P4,0,none⟩ (.int .i64 3))):=KR.out.fin KS.out (by have:=Bq.out;have:=Bi.out;omega);have PZ:=qaa ((KS.out.block PT (Yd Nh.out) nTP).trans Nh.out);clear PR QR DR KR KS;generalize w4.setCell ⟨P4,0,none⟩ (.int .i64 3)=w5 at *;have PR:=qaa PS.out;have QR:=qaa QS.out;have DR:=qaa DS.out;have KR:=qaa KT.out;clear PS QS DS KT;have g1:w5.cell? ⟨PT,1,none⟩=some (.string ⟨z.t.toArray⟩):=by rw[Ye _ _ _ _ _ _ PZ.out];rfl
 have g0:∃u,w5.cell? ⟨P4,1,none⟩=some u:=⟨_,by rw[Ye _ _ _ _ _ _ PR.out];rfl⟩;obtain⟨_,g0⟩:=g0;have f0:=Yf w5 P4 1 _ _ PR.out;go_upto_region 10 with fail
 clear g0 f0;have KS:Hid (Kept (fun k=>k=P4) w5 (w5.setCell ⟨P4,1,none⟩ (.string ⟨z.t.toArray⟩))):=Kept.setCell (F:=fun k=>k=P4) (p:=⟨P4,1,none⟩) (Kept.refl _ _) rfl _;have PS:Hid ((w5.setCell ⟨P4,1,none⟩ (.string ⟨z.t.toArray⟩)).heap[P4]? =some (.cells #[.int .i64 3,.string ⟨z.t.toArray⟩,.string ⟨#[]⟩,.slice none 0 0,.slice none 0 0,.slice none 0 0,.slice none 0 0,.int .i64 z.p] 60 (0,0))):=by
  have:=qab PR.out 1 (.string ⟨z.t.toArray⟩);simpa [Hid] using this
 have QS:=qaa ((KS.out.block Q (Yd QR.out) hl2.1).trans QR.out);have DS:=qaa (DR.out.kept KS.out hl2.2.1 hl2.2.2);have KT:Hid (Kept (fun k=>k=rp) w (w5.setCell ⟨P4,1,none⟩ (.string ⟨z.t.toArray⟩))):=KR.out.fin KS.out (by have:=Bq.out;have:=Bi.out;omega);clear PR QR DR KR KS;generalize w5.setCell ⟨P4,1,none⟩ (.string ⟨z.t.toArray⟩)=w6 at *;have PR:=qaa PS.out;have QR:=qaa QS.out;have DR:=qaa DS.out;have KR:=qaa KT.out;clear PS QS DS KT;clear g1;obtain⟨q0,q1,q2,q3,q4,q5,q6,q7⟩:=ld8 PR.out;obtain⟨⟨_,p0⟩,f0,⟨_,p1⟩,f1,⟨_,p2⟩,f2,⟨_,p3⟩,f3,⟨_,p4⟩,f4,⟨_,p5⟩,f5,⟨_,p6⟩,f6,⟨_,p7⟩,f7,Be,Bf⟩:=st8 QR.out (.int .i64 3) (.string ⟨z.t.toArray⟩) (.string ⟨#[]⟩) (.slice none 0 0) (.slice none 0 0) (.slice none 0 0) (.slice none 0 0) (.int .i64 z.p);have Bg:=qaa Be;have KQ:=qaa Bf;clear Be Bf;go_wp2;clear q0 q1 q2 q3 q4 q5 q6 q7;clear p0 f0 p1 f1 p2 f2 p3 f3 p4 f4 p5 f5 p6 f6 p7 f7;generalize ((((((((w6.setCell ⟨Q,0,none⟩ (.int .i64 3)).setCell ⟨Q,1,none⟩ (.string ⟨z.t.toArray⟩)).setCell ⟨Q,2,none⟩ (.string ⟨#[]⟩)).setCell ⟨Q,3,none⟩ (.slice none 0 0)).setCell ⟨Q,4,none⟩ (.slice none 0 0)).setCell ⟨Q,5,none⟩ (.slice none 0 0)).setCell ⟨Q,6,none⟩ (.slice none 0 0)).setCell ⟨Q,7,none⟩ (.int .i64 z.p))=w9 at *;obtain⟨q0,q1,q2,q3,q4,q5,q6,q7⟩:=ld8 Bg.out;refine Yg (by simp[results,Tryz.results152,go_sem,q0,q1,q2,q3,q4,q5,q6,q7];try rfl) rfl ?_;have hrq:¬rp=Q:=by have:=Bc.out;omega
 have Bv:¬g=Q:=by have:=Bc.out;omega
 refine⟨_,_,_,_,rfl,⟨_,_,_,_,_,_,_,_,_,_,_,_,_,_,_,_,rfl⟩,DR.out.kept KQ.out hrq Bv,KR.out.fin KQ.out (by have:=Bi.out;omega),?_⟩;exact .inl ⟨rfl,rfl,rfl,.mk 3 z.t [] [] [] [] [] z.p,_,_,rfl,qaj.leaf w9 _ 3 z.t [] z.p,List.nodup_nil,Bw.out⟩
theorem qjt {w:World} {base rp g cap:Nat} {Ts:List Tk} {f i:Nat} (h1:(tok Ts i).k≠1) (h2:(tok Ts i).k≠2) (h:DpA w base rp g cap Ts i 0 0):
 Calls Tryz.prog 152 #[.pointer (some ⟨rp,0,none⟩)] w (qs4 base rp g cap Ts w 0 0 (qdz Ts f i)):=by
 obtain⟨x,hx⟩:∃x,x=qdz Ts f i:=⟨_,rfl⟩;rw[←hx];obtain⟨z,hz⟩:∃z,z=tok Ts i:=⟨_,rfl⟩;have Bw:Hid (x=.bad 90 z.p):=by unfold Hid qdz at *;rw[hx,if_neg h2,if_pos (qd5 h1),←hz]
 rw[←hz] at h1 h2;have b1:(z.k !=1)=true:=by simpa using h1
 have b2:(z.k !=2)=true:=by simpa using h2
 have HZ:=qaa hz;obtain⟨Q,hQ⟩:∃Q,Q=w.heap.size:=⟨_,rfl⟩;obtain⟨W,hW⟩:∃W,W=w.alloc (.cells #[.int .i64 0,.string ⟨#[]⟩,.string ⟨#[]⟩,.slice none 0 0,.slice none 0 0,.slice none 0 0,.slice none 0 0,.int .i64 0] 60):=⟨_,rfl⟩;have X0:=qaa (show Below w.heap.size w W by rw[hW];exact al Yj _);have Q0:=qaa (show W.heap[Q]? =some (.cells #[.int .i64 0,.string ⟨#[]⟩,.string ⟨#[]⟩,.slice none 0 0,.slice none 0 0,.slice none 0 0,.slice none 0 0,.int .i64 0] 60 (0,0)) by rw[hW,hQ];exact Yh w _);have D:=qaa (h.below X0.out);have Bi:=qaa hQ;have Bc:Hid (rp<Q∧g<Q):=by have:=h.gl;unfold Hid;omega
 have HB2:=qaa b2;have HB1:=qaa b1;clear hx hz h b2 h1 h2 b1;go_enter Tryz.func152,Tryz.ntmps152;go_upto_region 1 with fail
 rw[←hQ,←hW];clear hQ hW;have HQ:Hid (∀V,Below W.heap.size W V→(V.cell? ⟨rp,0,none⟩=some (.slice (some ⟨g,0,none⟩) Ts.length cap)∧V.cell? ⟨rp,1,none⟩=some (.int .i64 (i:Nat)))∧V.cell? ⟨g,i*6,none⟩=some (.int .i64 z.k)∧V.cell? ⟨g,i*6+1,none⟩=some (.string ⟨z.t.toArray⟩)∧V.cell? ⟨g,i*6+2,none⟩=some (.int .i64 z.n)∧V.cell? ⟨g,i*6+3,none⟩=some (.int .i64 z.a)∧V.cell? ⟨g,i*6+4,none⟩=some (.int .i64 z.b)∧V.cell? ⟨g,i*6+5,none⟩=some (.int .i64 z.p)):=fun V y=>by
  have h:=D.out.below y;rw[HZ.out];exact⟨h.two,h.cells⟩
 have hlt:(i:Int)<Ts.length:=by have:=D.out.lt;omega
 refine qam (S:=fun V=>Below W.heap.size W V) 11 (by kernel_rfl) ?_;have Bb:Hid (Below W.heap.size W W.drew):=Yj.drew;generalize W.drew=vd at *;refine qac.tk 0 rfl 5 Bb.out (fun a b=>by obtain⟨⟨_,_⟩,_,_,_,_,_,_⟩:=HQ.out a b;go_simp;first|done|rfl) ?_
 try simp only[Act.put,Ya,Yb,Yc]
 refine qac.tk 1 rfl 6 Bb.out (fun a b=>by obtain⟨⟨_,_⟩,_,_,_,_,_,_⟩:=HQ.out a b;go_simp;first|done|rfl) ?_
 try simp only[Act.put,Ya,Yb,Yc]
 refine qac.tk 2 rfl 7 Bb.out (fun a b=>by obtain⟨⟨_,_⟩,_,_,_,_,_,_⟩:=HQ.out a b;go_simp;first|done|rfl) ?_
 try simp only[Act.put,Ya,Yb,Yc]
 refine qac.tk 3 rfl 8 Bb.out (fun a b=>by obtain⟨⟨_,_⟩,_,_,_,_,_,_⟩:=HQ.out a b;go_simp;first|done|rfl) ?_
 try simp only[Act.put,Ya,Yb,Yc]
 refine qac.tk 4 rfl 9 Bb.out (fun a b=>by obtain⟨⟨_,_⟩,_,_,_,_,_,_⟩:=HQ.out a b;go_simp;first|done|rfl) ?_
 try simp only[Act.put,Ya,Yb,Yc]
 refine qac.tk 5 rfl 10 Bb.out (fun a b=>by obtain⟨⟨_,_⟩,_,_,_,_,_,_⟩:=HQ.out a b;go_simp;first|done|rfl) ?_
 try simp only[Act.put,Ya,Yb,Yc]
 refine qac.tk 6 rfl 11 Bb.out (fun a b=>by obtain⟨⟨_,_⟩,_,_,_,_,_,_⟩:=HQ.out a b;go_simp;first|done|rfl) ?_
 try simp only[Act.put,Ya,Yb,Yc]
 refine qac.tk 7 rfl 12 Bb.out (fun a b=>by obtain⟨⟨_,_⟩,_,_,_,_,_,_⟩:=HQ.out a b;go_simp;first|done|rfl) ?_
 try simp only[Act.put,Ya,Yb,Yc]
 refine qac.tk 8 rfl 13 Bb.out (fun a b=>by obtain⟨⟨_,_⟩,_,_,_,_,_,_⟩:=HQ.out a b;go_simp;first|done|rfl) ?_
 try simp only[Act.put,Ya,Yb,Yc]
 refine qac.tk 9 rfl 14 Bb.out (fun a b=>by obtain⟨⟨_,_⟩,_,_,_,_,_,_⟩:=HQ.out a b;go_simp;first|done|rfl) ?_
 try simp only[Act.put,Ya,Yb,Yc]
 have BL:Hid (Below W.heap.size W (vd.alloc (.cells #[.int .i64 0,.string ⟨#[]⟩,.int .i64 0,.int .i64 0,.int .i64 0,.int .i64 0] 49))):=al Bb.out _;refine qac.stq 10 rfl fun K hK=>?_
 go_simp;refine hK _ _ BL.out ?_;clear hK K
 try simp only[Act.put,Ya,Yb,Yc]
 refine qac.lst rfl fun K hK=>?_
 go_simp;refine hK _ _ ?_;clear hK K hlt BL;have XT:Hid (Below W.heap.size W (vd.alloc (.cells #[.int .i64 z.k,.string ⟨z.t.toArray⟩,.int .i64 z.n,.int .i64 z.a,.int .i64 z.b,.int .i64 z.p] 49))):=al Bb.out _;have PB:=qaa (Yh vd (.cells #[.int .i64 z.k,.string ⟨z.t.toArray⟩,.int .i64 z.n,.int .i64 z.a,.int .i64 z.b,.int .i64 z.p] 49));obtain⟨PT,hPT⟩:∃P,P=vd.heap.size:=⟨_,rfl⟩;have EE:Hid (W.heap.size≤PT):=by rw[hPT];exact Bb.out.size
 rw[←hPT] at PB
 try rw[←hPT]
 clear HQ Bb hPT;generalize vd.alloc (.cells #[.int .i64 z.k,.string ⟨z.t.toArray⟩,.int .i64 z.n,.int .i64 z.a,.int .i64 z.b,.int .i64 z.p] 49)=wt at *;have D1:=qaa (D.out.below XT.out);have Q1:=qaa ((XT.out.block Q (Yd Q0.out)).trans Q0.out);have XA:=qaa (bt X0.out XT.out Yi);have nQ:Q≠rp:=by have:=Bc.out;omega
 clear D Q0 X0 XT;have g5:wt.cell? ⟨PT,5,none⟩=some (.int .i64 z.p):=by rw[Ye _ _ _ _ _ _ PB.out];rfl
 have X2:Hid (Below wt.heap.size wt (wt.alloc (.cells #[.int .i64 0,.string ⟨#[]⟩,.string ⟨#[]⟩,.slice none 0 0,.slice none 0 0,.slice none 0 0,.slice none 0 0,.int .i64 z.p] 60))):=al Yj _;have P2:=qaa (Yh wt (.cells #[.int .i64 0,.string ⟨#[]⟩,.string ⟨#[]⟩,.slice none 0 0,.slice none 0 0,.slice none 0 0,.slice none 0 0,.int .i64 z.p] 60));go_upto_region 3 with fail
 clear g5;obtain⟨P4,hP4⟩:∃P4,P4=wt.heap.size:=⟨_,rfl⟩;rw[←hP4] at P2;rw[←hP4];have Bq:Hid (Q<P4∧PT<P4):=by have:=Yd Q1.out;have:=Yd PB.out;unfold Hid;omega
 have DR:=qaa (D1.out.below X2.out);have QR:=qaa ((X2.out.block Q (Yd Q1.out)).trans Q1.out);have TB:=qaa ((X2.out.block PT (Yd PB.out)).trans PB.out);have XB:=qaa (bt XA.out X2.out Yi);have PR:=qaa P2.out;have KR:Hid (Kept (fun k=>k=rp) w (wt.alloc (.cells #[.int .i64 0,.string ⟨#[]⟩,.string ⟨#[]⟩,.slice none 0 0,.slice none 0 0,.slice none 0 0,.slice none 0 0,.int .i64 z.p] 60))):=Kept.of_below XB.out;clear hP4 D1 Q1 PB XA X2 P2;generalize wt.alloc (.cells #[.int .i64 0,.string ⟨#[]⟩,.string ⟨#[]⟩,.slice none 0 0,.slice none 0 0,.slice none 0 0,.slice none 0 0,.int .i64 z.p] 60)=w2 at *;have nP4:P4≠rp:=by have:=Bc.out;have:=Bq.out;omega
 have nPT:PT≠rp:=fun e=>qar TB.out DR.out.blk (by decide) e
 have hl2:Q≠P4∧rp≠P4∧g≠P4:=by have:=Bc.out;have:=Bq.out;exact⟨by omega,by omega,by omega⟩
 have ge:=DR.out.four.2.2.1;have g0:w2.cell? ⟨PT,0,none⟩=some (.int .i64 z.k):=by rw[Ye _ _ _ _ _ _ TB.out];rfl
 have b2:=HB2.out;have b1:=HB1.out;have HT:=qaa (qcr DR.out);rw[←HZ.out] at HT;go_upto_region 5 with(go_at_call 55;refine HT.out.mono ?_;rintro e' w6 ⟨rfl,d1,k1⟩;have DN:=qaa d1;have KN:=qaa k1;clear d1 k1)
 clear HT ge g0 b1 b2;have PS:=qaa ((KN.out.block P4 (Yd PR.out) nP4).trans PR.out);have QS:=qaa ((KN.out.block Q (Yd QR.out) nQ).trans QR.out);have KT:=qaa (KR.out.trans KN.out);clear PR QR DR KR KN;have PR:=qaa PS.out;have QR:=qaa QS.out;have DR:=qaa DN.out;have KR:=qaa KT.out;clear PS QS DN KT;obtain⟨q0,q1,q2,q3,q4,q5,q6,q7⟩:=ld8 PR.out;obtain⟨⟨_,p0⟩,f0,⟨_,p1⟩,f1,⟨_,p2⟩,f2,⟨_,p3⟩,f3,⟨_,p4⟩,f4,⟨_,p5⟩,f5,⟨_,p6⟩,f6,⟨_,p7⟩,f7,Be,Bf⟩:=st8 QR.out (.int .i64 0) (.string ⟨#[]⟩) (.string ⟨#[]⟩) (.slice none 0 0) (.slice none 0 0) (.slice none 0 0) (.slice none 0 0) (.int .i64 z.p);have Bg:=qaa Be;have KQ:=qaa Bf;clear Be Bf;go_wp2;clear q0 q1 q2 q3 q4 q5 q6 q7;clear p0 f0 p1 f1 p2 f2 p3 f3 p4 f4 p5 f5 p6 f6 p7 f7;generalize ((((((((w6.setCell ⟨Q,0,none⟩ (.int .i64 0)).setCell ⟨Q,1,none⟩ (.string ⟨#[]⟩)).setCell ⟨Q,2,none⟩ (.string ⟨#[]⟩)).setCell ⟨Q,3,none⟩ (.slice none 0 0)).setCell ⟨Q,4,none⟩ (.slice none 0 0)).setCell ⟨Q,5,none⟩ (.slice none 0 0)).setCell ⟨Q,6,none⟩ (.slice none 0 0)).setCell ⟨Q,7,none⟩ (.int .i64 z.p))=w9 at *;obtain⟨q0,q1,q2,q3,q4,q5,q6,q7⟩:=ld8 Bg.out;refine Yg (by simp[results,Tryz.results152,go_sem,q0,q1,q2,q3,q4,q5,q6,q7];try rfl) rfl ?_;have hrq:¬rp=Q:=by have:=Bc.out;omega
 have Bv:¬g=Q:=by have:=Bc.out;omega
 refine⟨_,_,_,_,rfl,⟨_,_,_,_,_,_,_,_,_,_,_,_,_,_,_,_,rfl⟩,DR.out.kept KQ.out hrq Bv,KR.out.fin KQ.out (by have:=Bi.out;omega),?_⟩;exact .inr ⟨by decide,fun _=>Bw.out,fun h=>absurd rfl h⟩
theorem qju {w:World} {base rp g cap:Nat} {Ts:List Tk} {f i:Nat} {e q:Int} (he:e≠0) (h:DpA w base rp g cap Ts i e q):
 Calls Tryz.prog 152 #[.pointer (some ⟨rp,0,none⟩)] w (qs4 base rp g cap Ts w e q (qdz Ts f i)):=by
 obtain⟨x,hx⟩:∃x,x=qdz Ts f i:=⟨_,rfl⟩;rw[←hx];obtain⟨z,hz⟩:∃z,z=tok Ts i:=⟨_,rfl⟩;have b2:(e !=0)=true:=by simpa using he
 have HE:=qaa he;have HZ:=qaa hz;obtain⟨Q,hQ⟩:∃Q,Q=w.heap.size:=⟨_,rfl⟩;obtain⟨W,hW⟩:∃W,W=w.alloc (.cells #[.int .i64 0,.string ⟨#[]⟩,.string ⟨#[]⟩,.slice none 0 0,.slice none 0 0,.slice none 0 0,.slice none 0 0,.int .i64 0] 60):=⟨_,rfl⟩;have X0:=qaa (show Below w.heap.size w W by rw[hW];exact al Yj _);have Q0:=qaa (show W.heap[Q]? =some (.cells #[.int .i64 0,.string ⟨#[]⟩,.string ⟨#[]⟩,.slice none 0 0,.slice none 0 0,.slice none 0 0,.slice none 0 0,.int .i64 0] 60 (0,0)) by rw[hW,hQ];exact Yh w _);have D:=qaa (h.below X0.out);have Bi:=qaa hQ;have Bc:Hid (rp<Q∧g<Q):=by have:=h.gl;unfold Hid;omega
 have HB2:=qaa b2;clear hx hz h b2 he;go_enter Tryz.func152,Tryz.ntmps152;go_upto_region 1 with fail
 rw[←hQ,←hW];clear hQ hW;have HQ:Hid (∀V,Below W.heap.size W V→(V.cell? ⟨rp,0,none⟩=some (.slice (some ⟨g,0,none⟩) Ts.length cap)∧V.cell? ⟨rp,1,none⟩=some (.int .i64 (i:Nat)))∧V.cell? ⟨g,i*6,none⟩=some (.int .i64 z.k)∧V.cell? ⟨g,i*6+1,none⟩=some (.string ⟨z.t.toArray⟩)∧V.cell? ⟨g,i*6+2,none⟩=some (.int .i64 z.n)∧V.cell? ⟨g,i*6+3,none⟩=some (.int .i64 z.a)∧V.cell? ⟨g,i*6+4,none⟩=some (.int .i64 z.b)∧V.cell? ⟨g,i*6+5,none⟩=some (.int .i64 z.p)):=fun V y=>by
  have h:=D.out.below y;rw[HZ.out];exact⟨h.two,h.cells⟩
 have hlt:(i:Int)<Ts.length:=by have:=D.out.lt;omega
 refine qam (S:=fun V=>Below W.heap.size W V) 11 (by kernel_rfl) ?_;have Bb:Hid (Below W.heap.size W W.drew):=Yj.drew;generalize W.drew=vd at *;refine qac.tk 0 rfl 5 Bb.out (fun a b=>by obtain⟨⟨_,_⟩,_,_,_,_,_,_⟩:=HQ.out a b;go_simp;first|done|rfl) ?_
 try simp only[Act.put,Ya,Yb,Yc]
 refine qac.tk 1 rfl 6 Bb.out (fun a b=>by obtain⟨⟨_,_⟩,_,_,_,_,_,_⟩:=HQ.out a b;go_simp;first|done|rfl) ?_
 try simp only[Act.put,Ya,Yb,Yc]
 refine qac.tk 2 rfl 7 Bb.out (fun a b=>by obtain⟨⟨_,_⟩,_,_,_,_,_,_⟩:=HQ.out a b;go_simp;first|done|rfl) ?_
 try simp only[Act.put,Ya,Yb,Yc]
 refine qac.tk 3 rfl 8 Bb.out (fun a b=>by obtain⟨⟨_,_⟩,_,_,_,_,_,_⟩:=HQ.out a b;go_simp;first|done|rfl) ?_
 try simp only[Act.put,Ya,Yb,Yc]
 refine qac.tk 4 rfl 9 Bb.out (fun a b=>by obtain⟨⟨_,_⟩,_,_,_,_,_,_⟩:=HQ.out a b;go_simp;first|done|rfl) ?_
 try simp only[Act.put,Ya,Yb,Yc]
 refine qac.tk 5 rfl 10 Bb.out (fun a b=>by obtain⟨⟨_,_⟩,_,_,_,_,_,_⟩:=HQ.out a b;go_simp;first|done|rfl) ?_
 try simp only[Act.put,Ya,Yb,Yc]
 refine qac.tk 6 rfl 11 Bb.out (fun a b=>by obtain⟨⟨_,_⟩,_,_,_,_,_,_⟩:=HQ.out a b;go_simp;first|done|rfl) ?_
 try simp only[Act.put,Ya,Yb,Yc]
 refine qac.tk 7 rfl 12 Bb.out (fun a b=>by obtain⟨⟨_,_⟩,_,_,_,_,_,_⟩:=HQ.out a b;go_simp;first|done|rfl) ?_
 try simp only[Act.put,Ya,Yb,Yc]
 refine qac.tk 8 rfl 13 Bb.out (fun a b=>by obtain⟨⟨_,_⟩,_,_,_,_,_,_⟩:=HQ.out a b;go_simp;first|done|rfl) ?_
 try simp only[Act.put,Ya,Yb,Yc]
 refine qac.tk 9 rfl 14 Bb.out (fun a b=>by obtain⟨⟨_,_⟩,_,_,_,_,_,_⟩:=HQ.out a b;go_simp;first|done|rfl) ?_
 try simp only[Act.put,Ya,Yb,Yc]
 have BL:Hid (Below W.heap.size W (vd.alloc (.cells #[.int .i64 0,.string ⟨#[]⟩,.int .i64 0,.int .i64 0,.int .i64 0,.int .i64 0] 49))):=al Bb.out _;refine qac.stq 10 rfl fun K hK=>?_
 go_simp;refine hK _ _ BL.out ?_;clear hK K
 try simp only[Act.put,Ya,Yb,Yc]
 refine qac.lst rfl fun K hK=>?_
 go_simp;refine hK _ _ ?_;clear hK K hlt BL;have XT:Hid (Below W.heap.size W (vd.alloc (.cells #[.int .i64 z.k,.string ⟨z.t.toArray⟩,.int .i64 z.n,.int .i64 z.a,.int .i64 z.b,.int .i64 z.p] 49))):=al Bb.out _;have PB:=qaa (Yh vd (.cells #[.int .i64 z.k,.string ⟨z.t.toArray⟩,.int .i64 z.n,.int .i64 z.a,.int .i64 z.b,.int .i64 z.p] 49));obtain⟨PT,hPT⟩:∃P,P=vd.heap.size:=⟨_,rfl⟩;have EE:Hid (W.heap.size≤PT):=by rw[hPT];exact Bb.out.size
 rw[←hPT] at PB
 try rw[←hPT]
 clear HQ Bb hPT;generalize vd.alloc (.cells #[.int .i64 z.k,.string ⟨z.t.toArray⟩,.int .i64 z.n,.int .i64 z.a,.int .i64 z.b,.int .i64 z.p] 49)=wt at *;have D1:=qaa (D.out.below XT.out);have Q1:=qaa ((XT.out.block Q (Yd Q0.out)).trans Q0.out);have XA:=qaa (bt X0.out XT.out Yi);have nQ:Q≠rp:=by have:=Bc.out;omega
 clear D Q0 X0 XT;have g5:wt.cell? ⟨PT,5,none⟩=some (.int .i64 z.p):=by rw[Ye _ _ _ _ _ _ PB.out];rfl
 have X2:Hid (Below wt.heap.size wt (wt.alloc (.cells #[.int .i64 0,.string ⟨#[]⟩,.string ⟨#[]⟩,.slice none 0 0,.slice none 0 0,.slice none 0 0,.slice none 0 0,.int .i64 z.p] 60))):=al Yj _;have P2:=qaa (Yh wt (.cells #[.int .i64 0,.string ⟨#[]⟩,.string ⟨#[]⟩,.slice none 0 0,.slice none 0 0,.slice none 0 0,.slice none 0 0,.int .i64 z.p] 60));go_upto_region 3 with fail
 clear g5;obtain⟨P4,hP4⟩:∃P4,P4=wt.heap.size:=⟨_,rfl⟩;rw[←hP4] at P2;rw[←hP4];have Bq:Hid (Q<P4∧PT<P4):=by have:=Yd Q1.out;have:=Yd PB.out;unfold Hid;omega
 have DR:=qaa (D1.out.below X2.out);have QR:=qaa ((X2.out.block Q (Yd Q1.out)).trans Q1.out);have TB:=qaa ((X2.out.block PT (Yd PB.out)).trans PB.out);have XB:=qaa (bt XA.out X2.out Yi);have PR:=qaa P2.out;have KR:Hid (Kept (fun k=>k=rp) w (wt.alloc (.cells #[.int .i64 0,.string ⟨#[]⟩,.string ⟨#[]⟩,.slice none 0 0,.slice none 0 0,.slice none 0 0,.slice none 0 0,.int .i64 z.p] 60))):=Kept.of_below XB.out;clear hP4 D1 Q1 PB XA X2 P2;generalize wt.alloc (.cells #[.int .i64 0,.string ⟨#[]⟩,.string ⟨#[]⟩,.slice none 0 0,.slice none 0 0,.slice none 0 0,.slice none 0 0,.int .i64 z.p] 60)=w2 at *;have nP4:P4≠rp:=by have:=Bc.out;have:=Bq.out;omega
 have nPT:PT≠rp:=fun e=>qar TB.out DR.out.blk (by decide) e
 have hl2:Q≠P4∧rp≠P4∧g≠P4:=by have:=Bc.out;have:=Bq.out;exact⟨by omega,by omega,by omega⟩
 have ge:=DR.out.four.2.2.1;have g0:w2.cell? ⟨PT,0,none⟩=some (.int .i64 z.k):=by rw[Ye _ _ _ _ _ _ TB.out];rfl
 have b2:=HB2.out;have HT:=qaa (qb9 DR.out HE.out);go_upto_region 5 with(go_at_call 55;refine HT.out.mono ?_;rintro e' w6 ⟨rfl,x1⟩;have X1:=qaa x1;clear x1)
 clear HT ge g0 b2;have DN:=qaa (DR.out.below X1.out);have KN:Hid (Kept (fun k=>k=rp) w2 w6):=Kept.of_below X1.out;clear X1;have PS:=qaa ((KN.out.block P4 (Yd PR.out) nP4).trans PR.out);have QS:=qaa ((KN.out.block Q (Yd QR.out) nQ).trans QR.out);have KT:=qaa (KR.out.trans KN.out);clear PR QR DR KR KN;have PR:=qaa PS.out;have QR:=qaa QS.out;have DR:=qaa DN.out;have KR:=qaa KT.out;clear PS QS DN KT;obtain⟨q0,q1,q2,q3,q4,q5,q6,q7⟩:=ld8 PR.out;obtain⟨⟨_,p0⟩,f0,⟨_,p1⟩,f1,⟨_,p2⟩,f2,⟨_,p3⟩,f3,⟨_,p4⟩,f4,⟨_,p5⟩,f5,⟨_,p6⟩,f6,⟨_,p7⟩,f7,Be,Bf⟩:=st8 QR.out (.int .i64 0) (.string ⟨#[]⟩) (.string ⟨#[]⟩) (.slice none 0 0) (.slice none 0 0) (.slice none 0 0) (.slice none 0 0) (.int .i64 z.p);have Bg:=qaa Be;have KQ:=qaa Bf;clear Be Bf;go_wp2;clear q0 q1 q2 q3 q4 q5 q6 q7;clear p0 f0 p1 f1 p2 f2 p3 f3 p4 f4 p5 f5 p6 f6 p7 f7;generalize ((((((((w6.setCell ⟨Q,0,none⟩ (.int .i64 0)).setCell ⟨Q,1,none⟩ (.string ⟨#[]⟩)).setCell ⟨Q,2,none⟩ (.string ⟨#[]⟩)).setCell ⟨Q,3,none⟩ (.slice none 0 0)).setCell ⟨Q,4,none⟩ (.slice none 0 0)).setCell ⟨Q,5,none⟩ (.slice none 0 0)).setCell ⟨Q,6,none⟩ (.slice none 0 0)).setCell ⟨Q,7,none⟩ (.int .i64 z.p))=w9 at *;obtain⟨q0,q1,q2,q3,q4,q5,q6,q7⟩:=ld8 Bg.out;refine Yg (by simp[results,Tryz.results152,go_sem,q0,q1,q2,q3,q4,q5,q6,q7];try rfl) rfl ?_;have hrq:¬rp=Q:=by have:=Bc.out;omega
 have Bv:¬g=Q:=by have:=Bc.out;omega
 refine⟨_,_,_,_,rfl,⟨_,_,_,_,_,_,_,_,_,_,_,_,_,_,_,_,rfl⟩,DR.out.kept KQ.out hrq Bv,KR.out.fin KQ.out (by have:=Bi.out;omega),?_⟩;exact .inr ⟨HE.out,fun h=>absurd h HE.out,fun _=>⟨rfl,rfl⟩⟩
end Go.Proofs.YtlmhofjiobmodaaGreatDoor

