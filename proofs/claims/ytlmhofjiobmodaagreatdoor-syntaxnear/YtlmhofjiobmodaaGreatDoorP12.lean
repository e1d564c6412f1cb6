/-
  The reader's row by its contract: conditions with a word between. Condition: its parts are read so.
-/
import Derived.Test.YtlmhofjiobmodaaGreatDoorP11
set_option maxRecDepth 100000
set_option maxHeartbeats 16000000
namespace Go.Proofs.YtlmhofjiobmodaaGreatDoor
open Go.RowKit Go.Lib
mutual
theorem Nrw.mono {n m:Nat} (h:n≤m):∀(c:CT),Nrw n c→Nrw m c
 |.mk k nm tx pre sp ns kids p,hc=>by
  unfold Nrw at hc ⊢;exact⟨Nat.le_trans hc.1 h,qib h kids hc.2⟩
theorem qib {n m:Nat} (h:n≤m):∀(l:List CT),Nrw.nrwL n l→Nrw.nrwL m l
 |[],_=>trivial
 |c::l,hl=>⟨Nrw.mono h c hl.1,qib h l hl.2⟩
end
theorem Tryz.info60n:(Tryz.prog.info? 60).map (fun i=>(i.zero,i.size,i.bytes))=some (some (.agg #[.int .i64 0,.string ⟨#[]⟩,.string ⟨#[]⟩,.slice none 0 0,.slice none 0 0,.slice none 0 0,.slice none 0 0,.int .i64 0]),8,144):=by kernel_rfl
theorem qcx.lo {w:World} {base P:Nat} {kind p:Int} {ks:List CT} {v6:Value} {cs:List Value} {bs:List Nat} (h:qcx w base P kind p ks v6 cs bs):∀k∈P::(bk v6++bs),k<w.heap.size:=by
 intro k hk;rcases List.mem_cons.1 hk with e|hk
 ·rw[e];exact Yd h.blk
 ·rcases List.mem_append.1 hk with hk|hk
  ·exact(World.ownsRow.lt h.row k (qbc.1 hk)).2
  ·exact(qao.lt h.kids k hk).2
theorem qcx.v6 {w:World} {base P:Nat} {kind p:Int} {ks:List CT} {v6:Value} {cs:List Value} {bs:List Nat} (h:qcx w base P kind p ks v6 cs bs):∃a6 c6,v6=.slice a6 ks.length c6:=by
 obtain⟨a,c,e,_⟩:=qad h.row;exact⟨a,c,e⟩
theorem qcx.one {w w':World} {base b1 P G:Nat} {kind p:Int} {c:CT} {a0 a1 a2 a3 a4 a5 a6 a7:Value} {bs:List Nat} (hc:qaj w b1 c [a0,a1,a2,a3,a4,a5,a6,a7] bs) (hn:bs.Nodup) (hb:base≤b1) (x:Below w.heap.size w w') (hG:w.heap.size≤G) (hP:G<P) (h0:base≤w.heap.size)
 (hg:w'.heap[G]? =some (.cells #[a0,a1,a2,a3,a4,a5,a6,a7] 60 (0,0))) (hp:w'.heap[P]? =some (.cells #[.int .i64 kind,.string ⟨#[]⟩,.string ⟨#[]⟩,.slice none 0 0,.slice none 0 0,.slice none 0 0,.slice (some ⟨G,0,none⟩) 1 1,.int .i64 p] 60 (0,0))):
 qcx w' base P kind p [c] (.slice (some ⟨G,0,none⟩) 1 1) [a0,a1,a2,a3,a4,a5,a6,a7] bs:=by
 have hl:=qaj.lt hc;refine⟨hp,⟨rfl,.inr ⟨G,1,_,rfl,by omega,hg,Nat.le_refl _,by unfold maxLen;omega,rfl,rfl⟩⟩,⟨_,bs,[],[],by simp,by simp,qaj.mono hb _ _ _ (hc.below x),rfl,rfl⟩,by omega,?_⟩;show(P::([G]++bs)).Nodup;refine List.nodup_cons.2 ⟨fun hm=>?_,List.nodup_cons.2 ⟨fun hm=>?_,hn⟩⟩
 ·rcases List.mem_cons.1 hm with e|hm
  ·omega
  ·have:=(hl P hm).2
   omega
 ·have:=(hl G hm).2
  omega
theorem qm8 {rbase rp g cap:Nat} {Ts:List Tk} {f i:Nat} {w:World} (word:By) (kind:Int) (pl:Nat) (hpl:pl≤3) (hf:4*(Ts.length-i)+(3-pl)+2≤f) (IH:∀(l:Nat) (V:World),l≤Ts.length→4*(Ts.length-l)+(3-pl)+2≤f→RdA V rbase rp g cap Ts l→Calls Tryz.prog 77 #[.pointer (some ⟨rp,0,none⟩),.int .i64 (pl:Nat)] V (qa7 rbase rp g cap Ts V (qaf Ts f pl l))) (hR:RdA w rbase rp g cap Ts i):
 Calls Tryz.prog 119 #[.pointer (some ⟨rp,0,none⟩),.agg #[.string ⟨word.toArray⟩,.int .i64 kind,.int .i64 (pl:Nat)]] w (qa7 rbase rp g cap Ts w ((qaf Ts f pl i).bind fun c j=>if isT Ts 1 word j=true then rowP Ts (qaf Ts f pl) word kind f [c] c.p j else .ok c j)):=by
 obtain⟨x,hx⟩:∃x,x=(qaf Ts f pl i).bind fun c j=>if isT Ts 1 word j=true then rowP Ts (qaf Ts f pl) word kind f [c] c.p j else .ok c j:=⟨_,rfl⟩
 rw[←hx];have HX:=qaa hx;have HF:=qaa hf;have J4:=qaa IH;have Gz:=qaa hpl;obtain⟨B,hB⟩:∃B,B=w.heap.size:=⟨_,rfl⟩;obtain⟨Q,hQ⟩:∃Q,Q=w.heap.size+1:=⟨_,rfl⟩;obtain⟨W,hW⟩:∃W,W=(w.alloc (.cells #[.string ⟨word.toArray⟩,.int .i64 kind,.int .i64 (pl:Nat)] 151)).alloc (.cells #[.int .i64 0,.string ⟨#[]⟩,.string ⟨#[]⟩,.slice none 0 0,.slice none 0 0,.slice none 0 0,.slice none 0 0,.int .i64 0] 60):=⟨_,rfl⟩;have X0:=qaa (show Below w.heap.size w W by rw[hW];exact al (al Yj _) _);have B0:=qaa (show W.heap[B]? =some (.cells #[.string ⟨word.toArray⟩,.int .i64 kind,.int .i64 (pl:Nat)] 151 (0,0)) by
  rw[hW,hB];exact(heap_alloc_old _ _ (by simp)).trans (Yh w _))
 have Q0:=qaa (show W.heap[Q]? =some (.cells #[.int .i64 0,.string ⟨#[]⟩,.string ⟨#[]⟩,.slice none 0 0,.slice none 0 0,.slice none 0 0,.slice none 0 0,.int .i64 0] 60 (0,0)) by
  rw[hW,hQ,show w.heap.size+1=(w.alloc (.cells #[.string ⟨word.toArray⟩,.int .i64 kind,.int .i64 (pl:Nat)] 151)).heap.size by simp];exact Yh _ _)
 have R0:=qaa (hR.below X0.out);have Bd:Hid (B=w.heap.size∧Q=w.heap.size+1∧W.heap.size=w.heap.size+2):=⟨hB,hQ,by rw[hW];simp⟩;have Bc:Hid (rp<B∧g<B):=by have:=hR.gl;unfold Hid;omega
 have DU:=qaa hR.lt;have Dy:=qaa hR.few;have HI:=qaa (J4.out i W (Nat.le_of_lt DU.out) HF.out R0.out);have g2:W.cell? ⟨B,2,none⟩=some (.int .i64 (pl:Nat)):=by rw[Ye _ _ _ _ _ _ B0.out];rfl
 clear hx hf IH hR hpl;go_enter Tryz.func119,Tryz.ntmps119;go_upto_region 1 with fail
 rw[←hQ,←hW,←hB];clear hQ hW hB;have nB:B≠rp:=by have:=Bc.out;omega
 have nQ:Q≠rp:=by have:=Bc.out;have:=Bd.out;omega
 go_wp2_with (fail);refine HI.out.mono ?_;intro e w2 hp;cases Bh:qaf Ts f pl i with
 |out=>rw[Bh] at hp;exact absurd hp (fun h=>h)
 |bad e0 p=>
  rw[Bh] at hp HX;obtain⟨he,k3⟩:=hp;unfold pan at he;subst he;exact⟨rfl,qa7.badI HX.out rfl ((Kept.of_below X0.out).trans k3)⟩
 |ok c j=>
  have GN:=qaa (qay f pl i c j Gz.out (Nat.le_of_lt DU.out) HF.out Bh);have EI:=qaa ((qax f pl i Gz.out (Nat.le_of_lt DU.out) HF.out).lt Bh);rw[Bh] at hp HX;obtain⟨⟨vs,bs,rfl,hct,hnd⟩,r3,k3⟩:=hp;obtain⟨a3,c3,a4,c4,a5,c5,a6,c6,rfl⟩:=hct.eight;have C2:=qaa hct;have Dp:=qaa hnd;have R2:=qaa r3;have B2:=qaa ((k3.block B (Yd B0.out) nB).trans B0.out);have Q2:=qaa ((k3.block Q (Yd Q0.out) nQ).trans Q0.out);have K2:=qaa ((Kept.of_below (F:=fun k=>k=rp) X0.out).trans k3);have Bl:Hid (x=if isT Ts 1 word j=true then rowP Ts (qaf Ts f pl) word kind f [c] c.p j else .ok c j):=HX.out;have HS2:Hid (W.heap.size≤w2.heap.size):=k3.size;clear Bh hct hnd r3 k3 HX HI R0 B0 Q0 X0 g2;have X3:Hid (Below w2.heap.size w2 (w2.alloc (.cells #[.int .i64 c.k,.string ⟨c.nm.toArray⟩,.string ⟨c.tx.toArray⟩,.slice a3 c.pre.length c3,.slice a4 c.sp.length c4,.slice a5 c.ns.length c5,.slice a6 c.kids.length c6,.int .i64 c.p] 60))):=al Yj _;have P3:=qaa (Yh w2 (.cells #[.int .i64 c.k,.string ⟨c.nm.toArray⟩,.string ⟨c.tx.toArray⟩,.slice a3 c.pre.length c3,.slice a4 c.sp.length c4,.slice a5 c.ns.length c5,.slice a6 c.kids.length c6,.int .i64 c.p] 60));go_upto_region 2 with fail
  obtain⟨P,hP⟩:∃P,P=w2.heap.size:=⟨_,rfl⟩;rw[←hP] at P3;have BK:Hid (W.heap.size≤P):=by have:=HS2.out;unfold Hid;omega
  have R3:=qaa (R2.out.below X3.out);have B3:=qaa ((X3.out.block B (Yd B2.out)).trans B2.out);have Q3:=qaa ((X3.out.block Q (Yd Q2.out)).trans Q2.out);have C3:=qaa (C2.out.below X3.out);have K3:=qaa (K2.out.trans (Kept.of_below X3.out));generalize w2.alloc (.cells #[.int .i64 c.k,.string ⟨c.nm.toArray⟩,.string ⟨c.tx.toArray⟩,.slice a3 c.pre.length c3,.slice a4 c.sp.length c4,.slice a5 c.ns.length c5,.slice a6 c.kids.length c6,.int .i64 c.p] 60)=w3 at *;rw[←hP];clear hP C2 R2 B2 Q2 X3 K2;have g0:w3.cell? ⟨B,0,none⟩=some (.string ⟨word.toArray⟩):=by rw[Ye _ _ _ _ _ _ B3.out];rfl
  have HW:=qaa (qb6 R3.out word);by_cases hw:isT Ts 1 word j=true
  ·have BO:Hid (x=rowP Ts (qaf Ts f pl) word kind f [c] c.p j):=by unfold Hid;rw[Bl.out,if_pos hw]
   rw[hw] at HW;clear hw Bl;go_upto_region 4 with(go_at_call 72;refine HW.out.mono ?_;rintro e w4 ⟨rfl,x4⟩;have X4:=qaa x4;clear x4)
   have R4:=qaa (R3.out.below X4.out);have P4:=qaa ((X4.out.block P (Yd P3.out)).trans P3.out);have B4:=qaa ((X4.out.block B (Yd B3.out)).trans B3.out);have Q4:=qaa ((X4.out.block Q (Yd Q3.out)).trans Q3.out);have C4:=qaa (C3.out.below X4.out);have K4:=qaa (K3.out.trans (Kept.of_below X4.out));have Ot:Hid (W.heap.size≤w4.heap.size):=by have:=X4.out.size;have:=Yd P3.out;have:=BK.out;unfold Hid;omega
   clear g0 HW X4 R3 P3 B3 Q3 C3 K3;obtain⟨q0,q1,q2,q3,q4,q5,q6,q7⟩:=ld8 P4.out;have g1:w4.cell? ⟨B,1,none⟩=some (.int .i64 kind):=by rw[Ye _ _ _ _ _ _ B4.out];rfl
   obtain⟨G,hG⟩:∃G,G=w4.heap.size:=⟨_,rfl⟩;obtain⟨P6,hP6⟩:∃P6,P6=w4.heap.size+1:=⟨_,rfl⟩;obtain⟨w5,Jw⟩:∃w5,w5=((w4.alloc (.cells #[.int .i64 c.k,.string ⟨c.nm.toArray⟩,.string ⟨c.tx.toArray⟩,.slice a3 c.pre.length c3,.slice a4 c.sp.length c4,.slice a5 c.ns.length c5,.slice a6 c.kids.length c6,.int .i64 c.p] 60)).alloc (.cells #[.int .i64 kind,.string ⟨#[]⟩,.string ⟨#[]⟩,.slice none 0 0,.slice none 0 0,.slice none 0 0,.slice (some ⟨w4.heap.size,0,none⟩) 1 1,.int .i64 c.p] 60)):=⟨_,rfl⟩;have X5:=qaa (show Below w4.heap.size w4 w5 by rw[Jw];exact al (al Yj _) _);have G5:=qaa (show w5.heap[G]? =some (.cells #[.int .i64 c.k,.string ⟨c.nm.toArray⟩,.string ⟨c.tx.toArray⟩,.slice a3 c.pre.length c3,.slice a4 c.sp.length c4,.slice a5 c.ns.length c5,.slice a6 c.kids.length c6,.int .i64 c.p] 60 (0,0)) by
    rw[Jw,hG];exact(heap_alloc_old _ _ (by simp)).trans (Yh w4 _))
   have P5:=qaa (show w5.heap[P6]? =some (.cells #[.int .i64 kind,.string ⟨#[]⟩,.string ⟨#[]⟩,.slice none 0 0,.slice none 0 0,.slice none 0 0,.slice (some ⟨w4.heap.size,0,none⟩) 1 1,.int .i64 c.p] 60 (0,0)) by
    rw[Jw,hP6,show w4.heap.size+1=(w4.alloc (.cells #[.int .i64 c.k,.string ⟨c.nm.toArray⟩,.string ⟨c.tx.toArray⟩,.slice a3 c.pre.length c3,.slice a4 c.sp.length c4,.slice a5 c.ns.length c5,.slice a6 c.kids.length c6,.int .i64 c.p] 60)).heap.size by simp];exact Yh _ _)
   rw[←hG] at P5;have RW:Hid (qcx w5 W.heap.size P6 kind c.p [c] (.slice (some ⟨G,0,none⟩) 1 1) _ bs):=qcx.one C4.out Dp.out Yi X5.out (by omega) (by omega) Ot.out G5.out P5.out;have g7:(w4.alloc (.cells #[.int .i64 c.k,.string ⟨c.nm.toArray⟩,.string ⟨c.tx.toArray⟩,.slice a3 c.pre.length c3,.slice a4 c.sp.length c4,.slice a5 c.ns.length c5,.slice a6 c.kids.length c6,.int .i64 c.p] 60)).cell? ⟨P,7,none⟩=some (.int .i64 c.p):=by
    have h:=(heap_alloc_old w4 (.cells #[.int .i64 c.k,.string ⟨c.nm.toArray⟩,.string ⟨c.tx.toArray⟩,.slice a3 c.pre.length c3,.slice a4 c.sp.length c4,.slice a5 c.ns.length c5,.slice a6 c.kids.length c6,.int .i64 c.p] 60) (Yd P4.out)).trans P4.out;rw[Ye _ _ _ _ _ _ h];rfl
   go_upto_block 0 with fail
   rw[←hP6,←Jw];have R5:=qaa (R4.out.below X5.out);have B5:=qaa ((X5.out.block B (Yd B4.out)).trans B4.out);have Q5:=qaa ((X5.out.block Q (Yd Q4.out)).trans Q4.out);have K5:=qaa (K4.out.trans (Kept.of_below X5.out));have G8:Hid (W.heap.size≤P6):=by have:=Ot.out;unfold Hid;omega
   clear hP6 hG Jw g7 q0 q1 q2 q3 q4 q5 q6 q7 g1 R4 P4 B4 Q4 C4 K4 G5 P5 X5 Dp BK HS2;have Bp:Hid (∀k∈[c],Gd Ts.length k):=fun k hk=>by rw[List.mem_singleton.1 hk];exact GN.out
   generalize c.p=cp at *;go_wp2;go_loopg [27] (f+1) (fun gg xx wr=>∃(ks:List CT) (v6:Value) (cs:List Value) (bs:List Nat) (j' f':Nat),xx=xx∧Hid (qcx wr W.heap.size P6 kind cp ks v6 cs bs)∧Hid (RdA wr rbase rp g cap Ts j')∧Hid (Kept (fun k=>k=rp) w wr)∧Hid (wr.heap[B]? =some (.cells #[.string ⟨word.toArray⟩,.int .i64 kind,.int .i64 (pl:Nat)] 151 (0,0)))∧Hid (wr.heap[Q]? =some (.cells #[.int .i64 0,.string ⟨#[]⟩,.string ⟨#[]⟩,.slice none 0 0,.slice none 0 0,.slice none 0 0,.slice none 0 0,.int .i64 0] 60 (0,0)))∧Hid (x=rowP Ts (qaf Ts f pl) word kind f' ks cp j')∧Hid (ks.length≤j')∧Hid (∀k∈ks,Gd Ts.length k)∧Hid (Ts.length-j'<f')∧Hid (i≤j')∧f'<gg)
   case atStart=>
    exact⟨_,_,_,_,j,f,rfl,RW,R5,K5,B5,Q5,BO,by have:=EI.out.1;unfold Hid;rw[List.length_singleton];omega,Bp,by have:=EI.out;have:=HF.out;unfold Hid;omega,by have:=EI.out.1;unfold Hid;omega,by omega⟩
   case round=>
    clear RW R5 K5 B5 Q5 BO Bp GN EI;obtain⟨ks,v6,cs,bs,j',f',_,RW,RR,KR,BR,QR,HX,De,Bp,Df,EI,hg⟩:=hrel;have HG:=qaa hg;clear hg;cases f' with
    |zero=>exact absurd Df.out (by omega)
    |succ f'=>
     have HM:Hid (x=if isT Ts 1 word j'=true then
      if ks.length=32∧qe3 Ts (j'+1)=true then .bad 92 (tok Ts (j'+1)).p
      else(qaf Ts f pl (j'+1)).bind fun c j=>rowP Ts (qaf Ts f pl) word kind f' (ks++[c]) cp j
      else qbl (.mk kind [] [] [] [] [] ks cp) j'):=HX.out
     clear HX;obtain⟨a6,c6,rfl⟩:=RW.out.v6;have g0:wr.cell? ⟨B,0,none⟩=some (.string ⟨word.toArray⟩):=by rw[Ye _ _ _ _ _ _ BR.out];rfl
     have HW:=qaa (qb6 RR.out word);by_cases hw:isT Ts 1 word j'=true
     ·rw[hw] at HW
      have HN:Hid (j'+1<Ts.length):=RR.out.next (by rw[qb0 hw];decide);have BM:Hid (x=if ks.length=32∧qe3 Ts (j'+1)=true then .bad 92 (tok Ts (j'+1)).p
       else(qaf Ts f pl (j'+1)).bind fun c j=>rowP Ts (qaf Ts f pl) word kind f' (ks++[c]) cp j):=by unfold Hid;rw[HM.out,if_pos hw]
      clear HM hw;go_upto_region 6 with(go_at_call 72;refine HW.out.mono ?_;rintro e w6 ⟨rfl,x6⟩;have X6:=qaa x6;clear x6)
      have R1:=qaa (RR.out.below X6.out);have E5:=qaa (RW.out.below X6.out);have B6:=qaa ((X6.out.block B (Yd BR.out)).trans BR.out);have Q6:=qaa ((X6.out.block Q (Yd QR.out)).trans QR.out);have K6:=qaa (KR.out.trans (Kept.of_below X6.out));clear g0 HW X6 RR RW BR QR KR;obtain⟨_,c1⟩:=R1.out.two;have f1:=Yf w6 rp 1 _ _ R1.out.blk;have fw:IntKind.i64.wrap ((j':Int)+1)=(j':Int)+1:=by have:=R1.out.few;have:=HN.out;simp[IntKind.wrap,IntKind.bits,IntKind.signed];omega
      go_upto_region 7 with fail
      clear c1 f1 fw;have R7:=qaa (R1.out.step HN.out);have KS:Hid (Kept (fun k=>k=rp) w6 (w6.setCell ⟨rp,1,none⟩ (.int .i64 ((j':Int)+1)))):=Kept.setCell (F:=fun k=>k=rp) (p:=⟨rp,1,none⟩) (Kept.refl _ _) rfl _;have K7:=qaa (K6.out.trans KS.out);have hlo:∀k,k=rp→k<W.heap.size:=by have:=Bc.out;have:=Bd.out;intro k hk;omega
      have Jm:=qaa (E5.out.frame KS.out hlo);have B7:=qaa ((KS.out.block B (Yd B6.out) nB).trans B6.out);have Q7:=qaa ((KS.out.block Q (Yd Q6.out) nQ).trans Q6.out);clear R1 KS K6 E5 B6 Q6 hlo;generalize w6.setCell ⟨rp,1,none⟩ (.int .i64 ((j':Int)+1))=w7 at *;have g6:w7.cell? ⟨P6,6,none⟩=some (.slice a6 ks.length c6):=by rw[Ye _ _ _ _ _ _ Jm.out.blk];rfl
      by_cases h32:ks.length=32
      ·have El:=qaa (qk8 R7.out)
       have GQ:((ks.length:Int)==32)=true:=by simp;omega
       by_cases hbg:qe3 Ts (j'+1)=true
       ·rw[hbg] at El
        have E8:=qaa (fun V (y:Below w7.heap.size w7 V)=>qb7 (R7.out.below y) 92);have Bt:Hid (x=.bad 92 (tok Ts (j'+1)).p):=by unfold Hid;rw[BM.out,if_pos ⟨h32,hbg⟩]
        generalize (tok Ts (j'+1)).p=zp at *;clear BM hbg h32;go_wp2_with (first
         |(go_at_call 147;refine El.out.mono ?_;rintro e w8 ⟨rfl,x8⟩;have X8:=qaa x8;clear x8)
         |(go_at_call 52;refine(E8.out _ X8.out).mono ?_;rintro e w9 ⟨he,x9⟩;unfold pan at he;subst he;have X9:=qaa (bt X8.out x9 Yi);clear x9))
        exact⟨rfl,qa7.badI Bt.out rfl (K7.out.trans (Kept.of_below X9.out))⟩
       ·have DL:qe3 Ts (j'+1)=false:=by simpa using hbg
        rw[DL] at El;have Bt:Hid (x=(qaf Ts f pl (j'+1)).bind fun c j=>rowP Ts (qaf Ts f pl) word kind f' (ks++[c]) cp j):=by unfold Hid;rw[BM.out,if_neg (fun h=>hbg h.2)]
        clear BM hbg DL h32;go_upto_region 9 with(go_at_call 147;refine El.out.mono ?_;rintro e w8 ⟨rfl,x8⟩;have X8:=qaa x8;clear x8)
        clear GQ;have R8:=qaa (R7.out.below X8.out);have Jn:=qaa (Jm.out.below X8.out);have B8:=qaa ((X8.out.block B (Yd B7.out)).trans B7.out);have Q8:=qaa ((X8.out.block Q (Yd Q7.out)).trans Q7.out);have K8:=qaa (K7.out.trans (Kept.of_below X8.out));clear R7 Jm B7 Q7 K7 X8 El g6;refine qam (S:=fun V=>V.cell? ⟨P6,6,none⟩=some (.slice a6 ks.length c6)∧V.cell? ⟨B,2,none⟩=some (.int .i64 (pl:Nat))) 9 (by kernel_rfl) ?_;have Bb:Hid (Below w8.heap.size w8 w8.drew):=Yj.drew;have RA:=qaa (R8.out.below Bb.out);have DT:=qaa (Jn.out.below Bb.out);have BA:=qaa ((Bb.out.block B (Yd B8.out)).trans B8.out);have QA:=qaa ((Bb.out.block Q (Yd Q8.out)).trans Q8.out);have KA:=qaa (K8.out.trans (Kept.of_below Bb.out));clear Bb R8 Jn B8 Q8 K8;generalize w8.drew=wA at *;have SF:Hid (∀V:World,V.heap[P6]? =wA.heap[P6]? →V.heap[B]? =some (.cells #[.string ⟨word.toArray⟩,.int .i64 kind,.int .i64 (pl:Nat)] 151 (0,0))→V.cell? ⟨P6,6,none⟩=some (.slice a6 ks.length c6)∧V.cell? ⟨B,2,none⟩=some (.int .i64 (pl:Nat))):=fun V h1 h2=>by
         have h1:=h1.trans DT.out.blk;exact⟨by rw[Ye _ _ _ _ _ _ h1];rfl,by rw[Ye _ _ _ _ _ _ h2];rfl⟩
        have SA:=qaa (SF.out wA rfl BA.out);refine qac.tk 0 rfl 45 SA.out (fun a b=>by obtain⟨_,_⟩:=b;go_simp;first|done|rfl) ?_
        try simp only[Act.put,Ya,Yb,Yc]
        refine qac.tk 1 rfl 46 SA.out (fun a b=>by obtain⟨_,_⟩:=b;go_simp;first|done|rfl) ?_
        try simp only[Act.put,Ya,Yb,Yc]
        refine qac.tk 2 rfl 47 SA.out (fun a b=>by obtain⟨_,_⟩:=b;go_simp;first|done|rfl) ?_
        try simp only[Act.put,Ya,Yb,Yc]
        refine qac.tk 3 rfl 48 SA.out (fun a b=>by obtain⟨_,_⟩:=b;go_simp;first|done|rfl) ?_
        try simp only[Act.put,Ya,Yb,Yc]
        refine qac.tk 4 rfl 49 SA.out (fun a b=>by obtain⟨_,_⟩:=b;go_simp;first|done|rfl) ?_
        try simp only[Act.put,Ya,Yb,Yc]
        have HI:=qaa (J4.out (j'+1) wA (by have:=HN.out;omega) (by have:=HF.out;have:=EI.out;omega) RA.out);refine qac.stq 5 rfl fun K hK=>?_
        go_simp;refine HI.out.mono ?_;intro e wB hp;cases Bh:qaf Ts f pl (j'+1) with
        |out=>rw[Bh] at hp;exact absurd hp (fun h=>h)
        |bad e0 p=>
         rw[Bh] at hp Bt;obtain⟨he,k3⟩:=hp;unfold pan at he;subst he;exact⟨rfl,qa7.badI Bt.out rfl (KA.out.trans k3)⟩
        |ok c2 j2=>
         have GN:=qaa (qay f pl (j'+1) c2 j2 Gz.out (by have:=HN.out;omega) (by have:=HF.out;have:=EI.out;omega) Bh);have HJ2:=qaa ((qax f pl (j'+1) Gz.out (by have:=HN.out;omega) (by have:=HF.out;have:=EI.out;omega)).lt Bh);rw[Bh] at hp Bt;obtain⟨⟨vs,cb,rfl,hct,hnd⟩,r3,k3⟩:=hp;obtain⟨d3,e3,d4,e4,d5,e5,d6,e6,rfl⟩:=hct.eight;have hlo:∀k,k=rp→k<W.heap.size:=by have:=Bc.out;have:=Bd.out;intro k hk;omega
         have CB:=qaa hct;have Dp:=qaa hnd;have RB:=qaa r3;have J5:=qaa (DT.out.frame k3 hlo);have BB:=qaa ((k3.block B (Yd BA.out) nB).trans BA.out);have QB:=qaa ((k3.block Q (Yd QA.out) nQ).trans QA.out);have KB:=qaa (KA.out.trans k3);have EJ:=qaa DT.out.lo;have PB:=qaa (J5.out.blk.trans DT.out.blk.symm);have SB:=qaa (SF.out wB PB.out BB.out);have G9:Hid (x=rowP Ts (qaf Ts f pl) word kind f' (ks++[c2]) cp j2):=Bt.out;have EK:Hid (W.heap.size≤wA.heap.size):=by have:=DT.out.bas;have:=Yd DT.out.blk;unfold Hid;omega
         refine hK _ _ SB.out ?_;clear hK K HI Bh hct hnd r3 k3 Bt hlo RA BA QA KA SA
         try simp only[Act.put,Ya,Yb,Yc]
         have XC:Hid (Below wB.heap.size wB (wB.alloc (.cells #[.int .i64 c2.k,.string ⟨c2.nm.toArray⟩,.string ⟨c2.tx.toArray⟩,.slice d3 c2.pre.length e3,.slice d4 c2.sp.length e4,.slice d5 c2.ns.length e5,.slice d6 c2.kids.length e6,.int .i64 c2.p] 60))):=al Yj _;have RC:=qaa (RB.out.below XC.out);have BJ:=qaa (J5.out.below XC.out);have BC:=qaa ((XC.out.block B (Yd BB.out)).trans BB.out);have QC:=qaa ((XC.out.block Q (Yd QB.out)).trans QB.out);have KC:=qaa (KB.out.trans (Kept.of_below XC.out));have CC:=qaa (CB.out.below XC.out);have SC:=qaa (SF.out (wB.alloc (.cells #[.int .i64 c2.k,.string ⟨c2.nm.toArray⟩,.string ⟨c2.tx.toArray⟩,.slice d3 c2.pre.length e3,.slice d4 c2.sp.length e4,.slice d5 c2.ns.length e5,.slice d6 c2.kids.length e6,.int .i64 c2.p] 60)) (BJ.out.blk.trans DT.out.blk.symm) BC.out);have BN:=qaa (World.news_of_block (Yh wB (.cells #[.int .i64 c2.k,.string ⟨c2.nm.toArray⟩,.string ⟨c2.tx.toArray⟩,.slice d3 c2.pre.length e3,.slice d4 c2.sp.length e4,.slice d5 c2.ns.length e5,.slice d6 c2.kids.length e6,.int .i64 c2.p] 60)));obtain⟨ie,hie,hz0,hz1,hz2⟩:=info_parts Tryz.info60n;refine qac.stq 6 rfl fun K hK=>?_
         go_simp;refine hK _ _ SC.out ?_;clear hK K RB J5 BB QB KB CB SB XC
         try simp only[Act.put,Ya,Yb,Yc]
         refine qac.stq 7 rfl fun K hK=>?_
         refine step_append_lies _ (by rfl) (.tmp 46) (.tmp 51) 58 (by rfl) W.heap.size 60 ie (.agg #[.int .i64 0,.string ⟨#[]⟩,.string ⟨#[]⟩,.slice none 0 0,.slice none 0 0,.slice none 0 0,.slice none 0 0,.int .i64 0]) 8 144 Tryz.underlying58 hie hz0 hz1 hz2 rfl (by decide) _ ks.length cs (by rfl) BJ.out.row ⟨wB.heap.size,0,none⟩ 1 1 [.int .i64 c2.k,.string ⟨c2.nm.toArray⟩,.string ⟨c2.tx.toArray⟩,.slice d3 c2.pre.length e3,.slice d4 c2.sp.length e4,.slice d5 c2.ns.length e5,.slice d6 c2.kids.length e6,.int .i64 c2.p] (by rfl) (by rfl) BN.out (by simp[Value.oneCell']) (by decide) (by have:=De.out;have:=HN.out;have:=Dy.out;unfold maxLen;omega) (by have:=De.out;have:=HN.out;have:=Dy.out;omega) (by have:=BJ.out.bas;have:=Yd BJ.out.blk;omega) _ rfl ?_;intro gD cD wD h1 h2 h3 h4;have Ed:Hid (qcx (wD.setCell ⟨P6,6,none⟩ (.slice (some ⟨gD,0,none⟩) (ks.length+1) cD)) W.heap.size P6 kind cp (ks++[c2]) (.slice (some ⟨gD,0,none⟩) (ks.length+1) cD) _ (bs++cb)):=qcx.push BJ.out CC.out Dp.out EK.out EJ.out rfl h2 h1 h3;have hkg:=qae h2;have hge:∀k,(Value.slice a6 ks.length c6).ownBlock=some k→W.heap.size≤k:=fun k hk=>(World.ownsRow.lt BJ.out.row k hk).1
         have KG:Hid (Kept (fun k=>W.heap.size≤k) (wB.alloc (.cells #[.int .i64 c2.k,.string ⟨c2.nm.toArray⟩,.string ⟨c2.tx.toArray⟩,.slice d3 c2.pre.length e3,.slice d4 c2.sp.length e4,.slice d5 c2.ns.length e5,.slice d6 c2.kids.length e6,.int .i64 c2.p] 60)) wD):=hkg.mono hge;have PD:Hid (wD.heap[P6]? =wA.heap[P6]?):=(hkg.block P6 (Yd BJ.out.blk) (fun e=>(List.nodup_cons.1 BJ.out.nd).1 (List.mem_append.2 (.inl (qbc.2 e))))).trans (BJ.out.blk.trans DT.out.blk.symm);have hl2:¬W.heap.size≤B∧¬W.heap.size≤Q∧¬W.heap.size≤rp∧¬W.heap.size≤g:=by have:=Bc.out;have:=Bd.out;exact⟨by omega,by omega,by omega,by omega⟩
         have BD:=qaa ((KG.out.block B (Yd BC.out) hl2.1).trans BC.out);have QD:=qaa ((KG.out.block Q (Yd QC.out) hl2.2.1).trans QC.out);have RD:=qaa (RC.out.kept KG.out hl2.2.2.1 hl2.2.2.2);have KD:Hid (Kept (fun k=>k=rp) w wD):=Kept.trans_new KC.out KG.out (fun k h1 h2=>absurd h2 (by have:=Bd.out;omega));have SD:=qaa (SF.out wD PD.out BD.out);have JV:=qaa (PD.out.trans DT.out.blk);refine hK _ _ SD.out ?_;clear hK K h1 h2 h3 h4 hkg hge KG RC BJ BC QC KC CC SC BN DT hl2;refine qac.tk 8 rfl 53 SD.out (fun a b=>by obtain⟨_,_⟩:=b;go_simp;first|done|rfl) ?_;have c7:=SD.out.1;have f7:=Yf wD P6 6 _ _ JV.out;refine qac.lst rfl fun K hK=>?_
         go_simp;refine hK _ _ ?_;clear hK K c7 f7;have K9:Hid (Kept (fun k=>k=P6) wD (wD.setCell ⟨P6,6,none⟩ (.slice (some ⟨gD,0,none⟩) (ks.length+1) cD))):=Kept.setCell (F:=fun k=>k=P6) (p:=⟨P6,6,none⟩) (Kept.refl _ _) rfl _;have hl2:B≠P6∧Q≠P6∧rp≠P6∧g≠P6:=by have:=Bc.out;have:=Bd.out;have:=G8.out;exact⟨by omega,by omega,by omega,by omega⟩
         have B9:=qaa ((K9.out.block B (Yd BD.out) hl2.1).trans BD.out);have Q9:=qaa ((K9.out.block Q (Yd QD.out) hl2.2.1).trans QD.out);have R9:=qaa (RD.out.kept K9.out hl2.2.2.1 hl2.2.2.2);have JW:Hid (Kept (fun k=>k=rp) w (wD.setCell ⟨P6,6,none⟩ (.slice (some ⟨gD,0,none⟩) (ks.length+1) cD))):=Kept.trans_new KD.out K9.out (fun k h1 h2=>absurd h1 (by have:=Bd.out;have:=G8.out;rw[h2];omega));clear hl2 BD QD RD KD SD JV PD K9 SF;generalize wD.setCell ⟨P6,6,none⟩ (.slice (some ⟨gD,0,none⟩) (ks.length+1) cD)=w9 at *;have J6:Hid (∀k∈ks++[c2],Gd Ts.length k):=fun k hk=>by
          rcases List.mem_append.1 hk with hk|hk
          ·exact Bp.out k hk
          ·rw[List.mem_singleton.1 hk];exact GN.out
         go_wp2;go_roundg (f'+1)
         case measure=>have:=HG.out;omega
         case rel=>exact⟨_,_,_,_,j2,f',(by first|rfl|trivial),Ed,R9,JW,B9,Q9,G9,by have:=De.out;have:=HJ2.out;unfold Hid;rw[List.length_append,List.length_singleton];omega,J6,by have:=Df.out;have:=HJ2.out;unfold Hid;omega,by have:=EI.out;have:=HJ2.out;unfold Hid;omega,by omega⟩
      ·have GQ:((ks.length:Int)==32)=false:=by simp;omega
       have Bt:Hid (x=(qaf Ts f pl (j'+1)).bind fun c j=>rowP Ts (qaf Ts f pl) word kind f' (ks++[c]) cp j):=by unfold Hid;rw[BM.out,if_neg (fun h=>h32 h.1)]
       clear BM h32;go_upto_region 9 with fail
       clear GQ g6;have R8:=qaa R7.out;have Jn:=qaa Jm.out;have B8:=qaa B7.out;have Q8:=qaa Q7.out;have K8:=qaa K7.out;clear R7 Jm B7 Q7 K7;refine qam (S:=fun V=>V.cell? ⟨P6,6,none⟩=some (.slice a6 ks.length c6)∧V.cell? ⟨B,2,none⟩=some (.int .i64 (pl:Nat))) 9 (by kernel_rfl) ?_;have Bb:Hid (Below w7.heap.size w7 w7.drew):=Yj.drew;have RA:=qaa (R8.out.below Bb.out);have DT:=qaa (Jn.out.below Bb.out);have BA:=qaa ((Bb.out.block B (Yd B8.out)).trans B8.out);have QA:=qaa ((Bb.out.block Q (Yd Q8.out)).trans Q8.out);have KA:=qaa (K8.out.trans (Kept.of_below Bb.out));clear Bb R8 Jn B8 Q8 K8;generalize w7.drew=wA at *;have SF:Hid (∀V:World,V.heap[P6]? =wA.heap[P6]? →V.heap[B]? =some (.cells #[.string ⟨word.toArray⟩,.int .i64 kind,.int .i64 (pl:Nat)] 151 (0,0))→V.cell? ⟨P6,6,none⟩=some (.slice a6 ks.length c6)∧V.cell? ⟨B,2,none⟩=some (.int .i64 (pl:Nat))):=fun V h1 h2=>by
        have h1:=h1.trans DT.out.blk;exact⟨by rw[Ye _ _ _ _ _ _ h1];rfl,by rw[Ye _ _ _ _ _ _ h2];rfl⟩
       have SA:=qaa (SF.out wA rfl BA.out);refine qac.tk 0 rfl 45 SA.out (fun a b=>by obtain⟨_,_⟩:=b;go_simp;first|done|rfl) ?_
       try simp only[Act.put,Ya,Yb,Yc]
       refine qac.tk 1 rfl 46 SA.out (fun a b=>by obtain⟨_,_⟩:=b;go_simp;first|done|rfl) ?_
       try simp only[Act.put,Ya,Yb,Yc]
       refine qac.tk 2 rfl 47 SA.out (fun a b=>by obtain⟨_,_⟩:=b;go_simp;first|done|rfl) ?_
       try simp only[Act.put,Ya,Yb,Yc]
       refine qac.tk 3 rfl 48 SA.out (fun a b=>by obtain⟨_,_⟩:=b;go_simp;first|done|rfl) ?_
       try simp only[Act.put,Ya,Yb,Yc]
       refine qac.tk 4 rfl 49 SA.out (fun a b=>by obtain⟨_,_⟩:=b;go_simp;first|done|rfl) ?_
       try simp only[Act.put,Ya,Yb,Yc]
       have HI:=qaa (J4.out (j'+1) wA (by have:=HN.out;omega) (by have:=HF.out;have:=EI.out;omega) RA.out);refine qac.stq 5 rfl fun K hK=>?_
       go_simp;refine HI.out.mono ?_;intro e wB hp;cases Bh:qaf Ts f pl (j'+1) with
       |out=>rw[Bh] at hp;exact absurd hp (fun h=>h)
       |bad e0 p=>
        rw[Bh] at hp Bt;obtain⟨he,k3⟩:=hp;unfold pan at he;subst he;exact⟨rfl,qa7.badI Bt.out rfl (KA.out.trans k3)⟩
       |ok c2 j2=>
        have GN:=qaa (qay f pl (j'+1) c2 j2 Gz.out (by have:=HN.out;omega) (by have:=HF.out;have:=EI.out;omega) Bh);have HJ2:=qaa ((qax f pl (j'+1) Gz.out (by have:=HN.out;omega) (by have:=HF.out;have:=EI.out;omega)).lt Bh);rw[Bh] at hp Bt;obtain⟨⟨vs,cb,rfl,hct,hnd⟩,r3,k3⟩:=hp;obtain⟨d3,e3,d4,e4,d5,e5,d6,e6,rfl⟩:=hct.eight;have hlo:∀k,k=rp→k<W.heap.size:=by have:=Bc.out;have:=Bd.out;intro k hk;omega
        have CB:=qaa hct;have Dp:=qaa hnd;have RB:=qaa r3;have J5:=qaa (DT.out.frame k3 hlo);have BB:=qaa ((k3.block B (Yd BA.out) nB).trans BA.out);have QB:=qaa ((k3.block Q (Yd QA.out) nQ).trans QA.out);have KB:=qaa (KA.out.trans k3);have EJ:=qaa DT.out.lo;have PB:=qaa (J5.out.blk.trans DT.out.blk.symm);have SB:=qaa (SF.out wB PB.out BB.out);have G9:Hid (x=rowP Ts (qaf Ts f pl) word kind f' (ks++[c2]) cp j2):=Bt.out;have EK:Hid (W.heap.size≤wA.heap.size):=by have:=DT.out.bas;have:=Yd DT.out.blk;unfold Hid;omega
        refine hK _ _ SB.out ?_;clear hK K HI Bh hct hnd r3 k3 Bt hlo RA BA QA KA SA
        try simp only[Act.put,Ya,Yb,Yc]
        have XC:Hid (Below wB.heap.size wB (wB.alloc (.cells #[.int .i64 c2.k,.string ⟨c2.nm.toArray⟩,.string ⟨c2.tx.toArray⟩,.slice d3 c2.pre.length e3,.slice d4 c2.sp.length e4,.slice d5 c2.ns.length e5,.slice d6 c2.kids.length e6,.int .i64 c2.p] 60))):=al Yj _;have RC:=qaa (RB.out.below XC.out);have BJ:=qaa (J5.out.below XC.out);have BC:=qaa ((XC.out.block B (Yd BB.out)).trans BB.out);have QC:=qaa ((XC.out.block Q (Yd QB.out)).trans QB.out);have KC:=qaa (KB.out.trans (Kept.of_below XC.out));have CC:=qaa (CB.out.below XC.out);have SC:=qaa (SF.out (wB.alloc (.cells #[.int .i64 c2.k,.string ⟨c2.nm.toArray⟩,.string ⟨c2.tx.toArray⟩,.slice d3 c2.pre.length e3,.slice d4 c2.sp.length e4,.slice d5 c2.ns.length e5,.slice d6 c2.kids.length e6,.int .i64 c2.p] 60)) (BJ.out.blk.trans DT.out.blk.symm) BC.out);have BN:=qaa (World.news_of_block (Yh wB (.cells #[.int .i64 c2.k,.string ⟨c2.nm.toArray⟩,.string ⟨c2.tx.toArray⟩,.slice d3 c2.pre.length e3,.slice d4 c2.sp.length e4,.slice d5 c2.ns.length e5,.slice d6 c2.kids.length e6,.int .i64 c2.p] 60)));obtain⟨ie,hie,hz0,hz1,hz2⟩:=info_parts Tryz.info60n;refine qac.stq 6 rfl fun K hK=>?_
        go_simp;refine hK _ _ SC.out ?_;clear hK K RB J5 BB QB KB CB SB XC
        try simp only[Act.put,Ya,Yb,Yc]
        refine qac.stq 7 rfl fun K hK=>?_
        refine step_append_lies _ (by rfl) (.tmp 46) (.tmp 51) 58 (by rfl) W.heap.size 60 ie (.agg #[.int .i64 0,.string ⟨#[]⟩,.string ⟨#[]⟩,.slice none 0 0,.slice none 0 0,.slice none 0 0,.slice none 0 0,.int .i64 0]) 8 144 Tryz.underlying58 hie hz0 hz1 hz2 rfl (by decide) _ ks.length cs (by rfl) BJ.out.row ⟨wB.heap.size,0,none⟩ 1 1 [.int .i64 c2.k,.string ⟨c2.nm.toArray⟩,.string ⟨c2.tx.toArray⟩,.slice d3 c2.pre.length e3,.slice d4 c2.sp.length e4,.slice d5 c2.ns.length e5,.slice d6 c2.kids.length e6,.int .i64 c2.p] (by rfl) (by rfl) BN.out (by simp[Value.oneCell']) (by decide) (by have:=De.out;have:=HN.out;have:=Dy.out;unfold maxLen;omega) (by have:=De.out;have:=HN.out;have:=Dy.out;omega) (by have:=BJ.out.bas;have:=Yd BJ.out.blk;omega) _ rfl ?_;intro gD cD wD h1 h2 h3 h4;have Ed:Hid (qcx (wD.setCell ⟨P6,6,none⟩ (.slice (some ⟨gD,0,none⟩) (ks.length+1) cD)) W.heap.size P6 kind cp (ks++[c2]) (.slice (some ⟨gD,0,none⟩) (ks.length+1) cD) _ (bs++cb)):=qcx.push BJ.out CC.out Dp.out EK.out EJ.out rfl h2 h1 h3;have hkg:=qae h2;have hge:∀k,(Value.slice a6 ks.length c6).ownBlock=some k→W.heap.size≤k:=fun k hk=>(World.ownsRow.lt BJ.out.row k hk).1
        have KG:Hid (Kept (fun k=>W.heap.size≤k) (wB.alloc (.cells #[.int .i64 c2.k,.string ⟨c2.nm.toArray⟩,.string ⟨c2.tx.toArray⟩,.slice d3 c2.pre.length e3,.slice d4 c2.sp.length e4,.slice d5 c2.ns.length e5,.slice d6 c2.kids.length e6,.int .i64 c2.p] 60)) wD):=hkg.mono hge;have PD:Hid (wD.heap[P6]? =wA.heap[P6]?):=(hkg.block P6 (Yd BJ.out.blk) (fun e=>(List.nodup_cons.1 BJ.out.nd).1 (List.mem_append.2 (.inl (qbc.2 e))))).trans (BJ.out.blk.trans DT.out.blk.symm);have hl2:¬W.heap.size≤B∧¬W.heap.size≤Q∧¬W.heap.size≤rp∧¬W.heap.size≤g:=by have:=Bc.out;have:=Bd.out;exact⟨by omega,by omega,by omega,by omega⟩
        have BD:=qaa ((KG.out.block B (Yd BC.out) hl2.1).trans BC.out);have QD:=qaa ((KG.out.block Q (Yd QC.out) hl2.2.1).trans QC.out);have RD:=qaa (RC.out.kept KG.out hl2.2.2.1 hl2.2.2.2);have KD:Hid (Kept (fun k=>k=rp) w wD):=Kept.trans_new KC.out KG.out (fun k h1 h2=>absurd h2 (by have:=Bd.out;omega));have SD:=qaa (SF.out wD PD.out BD.out);have JV:=qaa (PD.out.trans DT.out.blk);refine hK _ _ SD.out ?_;clear hK K h1 h2 h3 h4 hkg hge KG RC BJ BC QC KC CC SC BN DT hl2;refine qac.tk 8 rfl 53 SD.out (fun a b=>by obtain⟨_,_⟩:=b;go_simp;first|done|rfl) ?_;have c7:=SD.out.1;have f7:=Yf wD P6 6 _ _ JV.out;refine qac.lst rfl fun K hK=>?_
        go_simp;refine hK _ _ ?_;clear hK K c7 f7;have K9:Hid (Kept (fun k=>k=P6) wD (wD.setCell ⟨P6,6,none⟩ (.slice (some ⟨gD,0,none⟩) (ks.length+1) cD))):=Kept.setCell (F:=fun k=>k=P6) (p:=⟨P6,6,none⟩) (Kept.refl _ _) rfl _;have hl2:B≠P6∧Q≠P6∧rp≠P6∧g≠P6:=by have:=Bc.out;have:=Bd.out;have:=G8.out;exact⟨by omega,by omega,by omega,by omega⟩
        have B9:=qaa ((K9.out.block B (Yd BD.out) hl2.1).trans BD.out);have Q9:=qaa ((K9.out.block Q (Yd QD.out) hl2.2.1).trans QD.out);have R9:=qaa (RD.out.kept K9.out hl2.2.2.1 hl2.2.2.2);have JW:Hid (Kept (fun k=>k=rp) w (wD.setCell ⟨P6,6,none⟩ (.slice (some ⟨gD,0,none⟩) (ks.length+1) cD))):=Kept.trans_new KD.out K9.out (fun k h1 h2=>absurd h1 (by have:=Bd.out;have:=G8.out;rw[h2];omega));clear hl2 BD QD RD KD SD JV PD K9 SF;generalize wD.setCell ⟨P6,6,none⟩ (.slice (some ⟨gD,0,none⟩) (ks.length+1) cD)=w9 at *;have J6:Hid (∀k∈ks++[c2],Gd Ts.length k):=fun k hk=>by
         rcases List.mem_append.1 hk with hk|hk
         ·exact Bp.out k hk
         ·rw[List.mem_singleton.1 hk];exact GN.out
        go_wp2;go_roundg (f'+1)
        case measure=>have:=HG.out;omega
        case rel=>exact⟨_,_,_,_,j2,f',(by first|rfl|trivial),Ed,R9,JW,B9,Q9,G9,by have:=De.out;have:=HJ2.out;unfold Hid;rw[List.length_append,List.length_singleton];omega,J6,by have:=Df.out;have:=HJ2.out;unfold Hid;omega,by have:=EI.out;have:=HJ2.out;unfold Hid;omega,by omega⟩
     ·have hw':isT Ts 1 word j'=false:=by simpa using hw
      have BM:Hid (x=qbl (.mk kind [] [] [] [] [] ks cp) j'):=by unfold Hid;rw[HM.out,if_neg hw]
      rw[hw'] at HW;clear HM hw hw';go_upto_region 10 with(go_at_call 72;refine HW.out.mono ?_;rintro e w6 ⟨rfl,x6⟩;have X6:=qaa x6;clear x6)
      have R6:=qaa (RR.out.below X6.out);have E5:=qaa (RW.out.below X6.out);have Q6:=qaa ((X6.out.block Q (Yd QR.out)).trans QR.out);have K6:=qaa (KR.out.trans (Kept.of_below X6.out));clear g0 HW X6 RR RW BR QR KR;obtain⟨q0,q1,q2,q3,q4,q5,q6,q7⟩:=ld8 E5.out.blk;have JX:Hid (Nrw 1048576 (.mk kind [] [] [] [] [] ks cp)):=Nrw.of (by have:=De.out;have:=R6.out.lt;have:=R6.out.few;show ks.length≤1048576;omega) (fun k hk=>Nrw.mono R6.out.few k (Bp.out k hk).2);have JY:Hid (dpt (.mk kind [] [] [] [] [] ks cp)≤1048576):=by
       have e:=qck (.mk kind [] [] [] [] [] ks cp);have:dpt.dptL ks≤16:=qew.2 (fun k hk=>(Bp.out k hk).1);unfold Hid;rw[e];show dpt.dptL ks+1≤_;omega
      have MW:=qaa E5.out.ct;by_cases hd:dpt (.mk kind [] [] [] [] [] ks cp)≤16
      ·have HO:=qaa (qmv hd JY.out JX.out MW.out)
       have Bt:Hid (x=.ok (.mk kind [] [] [] [] [] ks cp) j'):=by unfold Hid;rw[BM.out];unfold qbl;rw[if_neg (by omega)]
       clear hd BM;go_wp2_with (fail);refine HO.out.mono ?_;rintro e w7 ⟨rfl,x7⟩;have X7:=qaa x7;clear x7 HO q0 q1 q2 q3 q4 q5 q6 q7;have R7:=qaa (R6.out.below X7.out);have Jm:=qaa (E5.out.below X7.out);have Q7:=qaa ((X7.out.block Q (Yd Q6.out)).trans Q6.out);have K7:=qaa (K6.out.trans (Kept.of_below X7.out));clear R6 E5 Q6 K6 X7 MW;obtain⟨⟨_,p0⟩,f0,⟨_,p1⟩,f1,⟨_,p2⟩,f2,⟨_,p3⟩,f3,⟨_,p4⟩,f4,⟨_,p5⟩,f5,⟨_,p6⟩,f6,⟨_,p7⟩,f7,Be,Bf⟩:=st8 Q7.out (.int .i64 kind) (.string ⟨#[]⟩) (.string ⟨#[]⟩) (.slice none 0 0) (.slice none 0 0) (.slice none 0 0) (.slice a6 ks.length c6) (.int .i64 cp);have Bg:=qaa Be;have KQ:=qaa Bf;clear Be Bf;go_wp2;clear p0 f0 p1 f1 p2 f2 p3 f3 p4 f4 p5 f5 p6 f6 p7 f7;generalize ((((((((w7.setCell ⟨Q,0,none⟩ (.int .i64 kind)).setCell ⟨Q,1,none⟩ (.string ⟨#[]⟩)).setCell ⟨Q,2,none⟩ (.string ⟨#[]⟩)).setCell ⟨Q,3,none⟩ (.slice none 0 0)).setCell ⟨Q,4,none⟩ (.slice none 0 0)).setCell ⟨Q,5,none⟩ (.slice none 0 0)).setCell ⟨Q,6,none⟩ (.slice a6 ks.length c6)).setCell ⟨Q,7,none⟩ (.int .i64 cp))=w9 at *;obtain⟨q0,q1,q2,q3,q4,q5,q6,q7⟩:=ld8 Bg.out;refine Yg (by simp[results,Tryz.results119,go_sem,q0,q1,q2,q3,q4,q5,q6,q7];try rfl) rfl ?_;refine qa7.okI Bt.out rfl (Jm.out.ct.frame KQ.out (fun k hk=>?_) ?_) (List.nodup_cons.1 Jm.out.nd).2 (R7.out.kept KQ.out ?_ ?_) (K7.out.fin KQ.out ?_)
       ·have:=Bd.out
        rw[hk];omega
       ·have:=Bd.out
        omega
       ·have:=Bc.out
        have:=Bd.out;show ¬rp=Q;omega
       ·have:=Bc.out
        have:=Bd.out;show ¬g=Q;omega
       ·have:=Bd.out
        omega
      ·have HO:=qaa (qkd hd JY.out JX.out MW.out)
       have Bt:Hid (x=.bad 91 cp):=by unfold Hid;rw[BM.out];unfold qbl;rw[if_pos (by omega)];rfl
       clear hd BM;go_wp2_with (fail);refine HO.out.mono ?_;rintro e w7 ⟨he,x7⟩;unfold pan at he;subst he;exact⟨rfl,qa7.badI Bt.out rfl (K6.out.trans (Kept.of_below x7))⟩
  ·have hw':isT Ts 1 word j=false:=by simpa using hw
   have BO:Hid (x=.ok c j):=by unfold Hid;rw[Bl.out,if_neg hw]
   rw[hw'] at HW;clear hw hw' Bl;go_upto_region 3 with(go_at_call 72;refine HW.out.mono ?_;rintro e w4 ⟨rfl,x4⟩;have X4:=qaa x4;clear x4)
   have R4:=qaa (R3.out.below X4.out);have P4:=qaa ((X4.out.block P (Yd P3.out)).trans P3.out);have Q4:=qaa ((X4.out.block Q (Yd Q3.out)).trans Q3.out);have C4:=qaa (C3.out.below X4.out);have K4:=qaa (K3.out.trans (Kept.of_below X4.out));obtain⟨q0,q1,q2,q3,q4,q5,q6,q7⟩:=ld8 P4.out;obtain⟨⟨_,p0⟩,f0,⟨_,p1⟩,f1,⟨_,p2⟩,f2,⟨_,p3⟩,f3,⟨_,p4⟩,f4,⟨_,p5⟩,f5,⟨_,p6⟩,f6,⟨_,p7⟩,f7,Be,Bf⟩:=st8 Q4.out (.int .i64 c.k) (.string ⟨c.nm.toArray⟩) (.string ⟨c.tx.toArray⟩) (.slice a3 c.pre.length c3) (.slice a4 c.sp.length c4) (.slice a5 c.ns.length c5) (.slice a6 c.kids.length c6) (.int .i64 c.p);have Bg:=qaa Be;have KQ:=qaa Bf;clear Be Bf;go_wp2;clear q0 q1 q2 q3 q4 q5 q6 q7;clear p0 f0 p1 f1 p2 f2 p3 f3 p4 f4 p5 f5 p6 f6 p7 f7;generalize ((((((((w4.setCell ⟨Q,0,none⟩ (.int .i64 c.k)).setCell ⟨Q,1,none⟩ (.string ⟨c.nm.toArray⟩)).setCell ⟨Q,2,none⟩ (.string ⟨c.tx.toArray⟩)).setCell ⟨Q,3,none⟩ (.slice a3 c.pre.length c3)).setCell ⟨Q,4,none⟩ (.slice a4 c.sp.length c4)).setCell ⟨Q,5,none⟩ (.slice a5 c.ns.length c5)).setCell ⟨Q,6,none⟩ (.slice a6 c.kids.length c6)).setCell ⟨Q,7,none⟩ (.int .i64 c.p))=w9 at *;obtain⟨q0,q1,q2,q3,q4,q5,q6,q7⟩:=ld8 Bg.out;refine Yg (by simp[results,Tryz.results119,go_sem,q0,q1,q2,q3,q4,q5,q6,q7];try rfl) rfl ?_;refine qa7.okI BO.out rfl (C4.out.frame KQ.out (fun k hk=>?_) ?_) Dp.out (R4.out.kept KQ.out ?_ ?_) (K4.out.fin KQ.out ?_)
   ·have:=Bd.out
    rw[hk];omega
   ·have:=Bd.out
    omega
   ·have:=Bc.out
    have:=Bd.out;show ¬rp=Q;omega
   ·have:=Bc.out
    have:=Bd.out;show ¬g=Q;omega
   ·have:=Bd.out
    omega
end Go.Proofs.YtlmhofjiobmodaaGreatDoor

