/-
  The writer's cond of any condition that it writes. Condition: no more than its kinds have, the numbers 1, 9, 80.
-/
import Derived.Test.YtlmhofjiobmodaaGreatDoorP14
import Derived.Deep.DeepCutAuto
import Derived.Deep.CutBlock
import Derived.Test.YtlmhofjiobmodaaGreatDoorP13
set_option maxRecDepth 100000
set_option maxHeartbeats 16000000
namespace Go.Proofs.YtlmhofjiobmodaaGreatDoor
open Go.RowKit Go.Lib
theorem qke:∀f,qrb f
 |0=>fun c place deep s x w base wp b0 vs bs _ _ _ _ _ hx=>by cases hx
 |f+1=>fun c place deep s x w base wp b0 vs bs hp hd hs h hc hx=>by
  have hC:=qke f;obtain⟨Bj,hsp,hkd⟩:=hs;rw[qec] at hx;have hkk:=Bj;unfold NoM at hkk;rcases hkk with⟨hk|hk,_⟩|⟨hk,_⟩|⟨hk|hk|hk,_⟩|⟨hk,_⟩
  ·rw[hk] at hx
   exact qpd (M:=fun a=>qsa c a) hk (by omega) hp Bj h hc (fun V a b r k e=>qi1 r k hsp e) hx
  ·rw[hk] at hx
   exact qpe (M:=fun a=>qsa c a) hk (by omega) hp Bj h hc (fun V a b r k e=>qi1 r k hsp e) hx
  ·rw[hk] at hx
   exact qna (M:=fun a=>qsl c.nm a) hk (by omega) hp Bj h hc (fun V a b r k e=>qmm r e) hx
  ·rw[hk] at hx
   exact qpf (M:=fun a=>qtg (fun d=>qec f d 2) c.kids a) hk (by omega) hp Bj h hc (fun V a b r k e=>qsq hC (by omega) hkd r k e) hx
  ·rw[hk] at hx
   exact qpg (M:=fun a=>qsb (fun d=>qec f d 2) qeq c.kids a) hk (by omega) hp Bj h hc (fun V a b r k e=>qm9 (parts:=2) hC (by omega) (by omega) hkd r k e) hx
  ·rw[hk] at hx
   exact qrc (M:=fun a=>qsb (fun d=>qec f d 1) wOr c.kids a) hk (by omega) hp Bj h hc (fun V a b r k e=>qm9 (parts:=1) hC (by omega) (by omega) hkd r k e) hx
  ·rw[hk] at hx
   exact qnb (M:=fun a=>qsa c a) hk (by omega) hp Bj h hc (fun V a b r k e=>qi1 r k hsp e) hx
section
variable {P:Program} {ops:Array Oper} {Q:Exit→Act→World→Prop} {md:Region.Mode} {S:World→Prop} {z:Nat}
theorem qac.two {i j n:Nat} {oi oj:Oper} {done:Array Bool} {a:Act} {w:World} (hr:Region.ready md ops done=[i,j]) (hi:ops[i]? =some oi) (hj:ops[j]? =some oj)
 (h1:∀K':Act→World→Prop,Shut (∀a w,S w→qac P md ops Q S z n (done.setIfInBounds i true) a w→K' a w)→if Region.wanted oi (yielded ops a.tmps)=true then Oper.wp P oi a w K' Q else K' (a.put oi.dst undef) w)
 (h2:∀K':Act→World→Prop,Shut (∀a w,S w→qac P md ops Q S z n (done.setIfInBounds j true) a w→K' a w)→if Region.wanted oj (yielded ops a.tmps)=true then Oper.wp P oj a w K' Q else K' (a.put oj.dst undef) w):qac P md ops Q S z (n+1) done a w:=
 ⟨fun h0=>(by rw[hr] at h0;cases h0),fun k hk=>by
   rw[hr] at hk;rcases List.mem_cons.1 hk with rfl|hk
   ·exact wpOp_step hi (fun K' hK=>h1 K' (fun a w h3 h4=>hK a w ⟨fun _=>h3,h4⟩))
   ·obtain rfl:=List.mem_singleton.1 hk
    exact wpOp_step hj (fun K' hK=>h2 K' (fun a w h3 h4=>hK a w ⟨fun _=>h3,h4⟩))⟩
end
theorem qcx.sole {w w':World} {base b1 P G:Nat} {kind p:Int} {c:CT} {a0 a1 a2 a3 a4 a5 a6 a7:Value} {bs:List Nat} (hc:qaj w b1 c [a0,a1,a2,a3,a4,a5,a6,a7] bs) (hn:bs.Nodup) (hb:base≤b1) (hk:Kept (fun k=>k=P) w w') (hG:w.heap.size≤G) (hP:P<b1) (hB:base≤P) (hbw:b1≤w.heap.size)
 (hg:w'.heap[G]? =some (.cells #[a0,a1,a2,a3,a4,a5,a6,a7] 60 (0,0))) (hp:w'.heap[P]? =some (.cells #[.int .i64 kind,.string ⟨#[]⟩,.string ⟨#[]⟩,.slice none 0 0,.slice none 0 0,.slice none 0 0,.slice (some ⟨G,0,none⟩) 1 1,.int .i64 p] 60 (0,0))):
 qcx w' base P kind p [c] (.slice (some ⟨G,0,none⟩) 1 1) [a0,a1,a2,a3,a4,a5,a6,a7] bs:=by
 have hl:=qaj.lt hc;refine⟨hp,⟨rfl,.inr ⟨G,1,_,rfl,by omega,hg,Nat.le_refl _,by unfold maxLen;omega,rfl,rfl⟩⟩,⟨_,bs,[],[],by simp,by simp,hc.frame hk (fun k h=>by rw[h];exact hP) hb,rfl,rfl⟩,hB,?_⟩;show(P::([G]++bs)).Nodup;refine List.nodup_cons.2 ⟨fun hm=>?_,List.nodup_cons.2 ⟨fun hm=>?_,hn⟩⟩
 ·rcases List.mem_cons.1 hm with e|hm
  ·omega
  ·have:=(hl P hm).1
   omega
 ·have:=(hl G hm).2
  omega
theorem qrd {rbase rp g cap:Nat} {Ts:List Tk} {f i:Nat} {w:World} (hf:4*(Ts.length-i)+3≤f+1) (Pi:∀(l:Nat) (V:World),l≤Ts.length→4*(Ts.length-l)+3≤f→RdA V rbase rp g cap Ts l→Calls Tryz.prog 77 #[.pointer (some ⟨rp,0,none⟩),.int .i64 2] V (qa7 rbase rp g cap Ts V (qaf Ts f 2 l))) (Pj:∀(l:Nat) (V:World),l≤Ts.length→4*(Ts.length-l)+2≤f→RdA V rbase rp g cap Ts l→Calls Tryz.prog 77 #[.pointer (some ⟨rp,0,none⟩),.int .i64 3] V (qa7 rbase rp g cap Ts V (qaf Ts f 3 l))) (hR:RdA w rbase rp g cap Ts i):
 Calls Tryz.prog 118 #[.pointer (some ⟨rp,0,none⟩),.agg #[.string ⟨#[110,111,116]⟩,.int .i64 4,.int .i64 2]] w (qa7 rbase rp g cap Ts w (qaf Ts (f+1) 2 i)):=by
 obtain⟨x,hx⟩:∃x,x=qaf Ts (f+1) 2 i:=⟨_,rfl⟩;rw[←hx];rw[qdg] at hx;have HX:=qaa hx;have HF:=qaa hf;have HI2:=qaa Pi;have HI3:=qaa Pj;obtain⟨B,hB⟩:∃B,B=w.heap.size:=⟨_,rfl⟩;obtain⟨Q,hQ⟩:∃Q,Q=w.heap.size+1:=⟨_,rfl⟩;obtain⟨W,hW⟩:∃W,W=(w.alloc (.cells #[.string ⟨#[110,111,116]⟩,.int .i64 4,.int .i64 2] 151)).alloc (.cells #[.int .i64 0,.string ⟨#[]⟩,.string ⟨#[]⟩,.slice none 0 0,.slice none 0 0,.slice none 0 0,.slice none 0 0,.int .i64 0] 60):=⟨_,rfl⟩;have X0:=qaa (show Below w.heap.size w W by rw[hW];exact al (al Yj _) _);have B0:=qaa (show W.heap[B]? =some (.cells #[.string ⟨#[110,111,116]⟩,.int .i64 4,.int .i64 2] 151 (0,0)) by
  rw[hW,hB];exact(heap_alloc_old _ _ (by simp)).trans (Yh w _))
 have Q0:=qaa (show W.heap[Q]? =some (.cells #[.int .i64 0,.string ⟨#[]⟩,.string ⟨#[]⟩,.slice none 0 0,.slice none 0 0,.slice none 0 0,.slice none 0 0,.int .i64 0] 60 (0,0)) by
  rw[hW,hQ,show w.heap.size+1=(w.alloc (.cells #[.string ⟨#[110,111,116]⟩,.int .i64 4,.int .i64 2] 151)).heap.size by simp];exact Yh _ _)
 have R0:=qaa (hR.below X0.out);have Bd:Hid (B=w.heap.size∧Q=w.heap.size+1∧W.heap.size=w.heap.size+2):=⟨hB,hQ,by rw[hW];simp⟩;have Bc:Hid (rp<B∧g<B):=by have:=hR.gl;unfold Hid;omega
 have DU:=qaa hR.lt;have Dy:=qaa hR.few;have HW:=qaa (qb6 R0.out qg2);have hwn:(⟨qg2.toArray⟩:ByteArray)=⟨#[110,111,116]⟩:=rfl;rw[hwn] at HW;have g0:W.cell? ⟨B,0,none⟩=some (.string ⟨#[110,111,116]⟩):=by rw[Ye _ _ _ _ _ _ B0.out];rfl
 clear hx hf Pi Pj hR hwn;go_enter Tryz.func118,Tryz.ntmps118;go_upto_region 1 with fail
 rw[←hQ,←hW,←hB];clear hQ hW hB;have nB:B≠rp:=by have:=Bc.out;omega
 have nQ:Q≠rp:=by have:=Bc.out;have:=Bd.out;omega
 by_cases hw:isT Ts 1 qg2 i=true
 ·have HN:Hid (i+1<Ts.length):=R0.out.next (by rw[qb0 hw];decide)
  have DK:Hid ((tok Ts i).k=1):=qb0 hw;have Bl:Hid (x=(qaf Ts f 2 (i+1)).bind fun c j=>qbl (.mk 4 [] [] [] [] [] [c] (tok Ts i).p) j):=by unfold Hid;rw[HX.out,if_pos hw]
  rw[hw] at HW;clear hw HX HI3;go_upto_region 3 with(go_at_call 72;refine HW.out.mono ?_;rintro e w1 ⟨rfl,x1⟩;have X1:=qaa x1;clear x1)
  have R1:=qaa (R0.out.below X1.out);have B1:=qaa ((X1.out.block B (Yd B0.out)).trans B0.out);have Q1:=qaa ((X1.out.block Q (Yd Q0.out)).trans Q0.out);have XA:=qaa (bt X0.out X1.out Yi);clear g0 HW X1 R0 B0 Q0 X0;obtain⟨z,hz⟩:∃z,z=tok Ts i:=⟨_,rfl⟩;rw[←hz] at Bl;have HZ:=qaa hz;clear hz;go_cut [5] (fun s5 wx=>∃P,s5=.pointer (some ⟨P,0,none⟩)∧Hid (wx.heap[P]? =some (.cells #[.int .i64 4,.string ⟨#[]⟩,.string ⟨#[]⟩,.slice none 0 0,.slice none 0 0,.slice none 0 0,.slice none 0 0,.int .i64 z.p] 60 (0,0)))∧Hid (Q<P∧W.heap.size≤P)∧Hid (RdA wx rbase rp g cap Ts (i+1))∧Hid (wx.heap[B]? =some (.cells #[.string ⟨#[110,111,116]⟩,.int .i64 4,.int .i64 2] 151 (0,0)))∧Hid (wx.heap[Q]? =some (.cells #[.int .i64 0,.string ⟨#[]⟩,.string ⟨#[]⟩,.slice none 0 0,.slice none 0 0,.slice none 0 0,.slice none 0 0,.int .i64 0] 60 (0,0)))∧Hid (Kept (fun k=>k=rp) w wx))
  case first=>
   refine qam (S:=fun V=>V.cell? ⟨B,1,none⟩=some (.int .i64 4)) 7 (by kernel_rfl) ?_;have Bb:Hid (Below w1.heap.size w1 w1.drew):=Yj.drew;have R2:=qaa (R1.out.below Bb.out);have B2:=qaa ((Bb.out.block B (Yd B1.out)).trans B1.out);have Q2:=qaa ((Bb.out.block Q (Yd Q1.out)).trans Q1.out);have XB:=qaa (bt XA.out Bb.out Yi);clear Bb R1 B1 Q1 XA;generalize w1.drew=w2 at *;have SF:Hid (∀V:World,V.heap[B]? =some (.cells #[.string ⟨#[110,111,116]⟩,.int .i64 4,.int .i64 2] 151 (0,0))→V.cell? ⟨B,1,none⟩=some (.int .i64 4)):=fun V h1=>by rw[Ye _ _ _ _ _ _ h1];rfl
   have S2:=qaa (SF.out w2 B2.out);have hf:=qsh;refine qac.tk 0 rfl 17 S2.out (fun a b=>by have _:=b;go_simp;first|done|rfl) ?_
   try simp only[Act.put,Ya,Yb,Yc]
   refine qac.tk 1 rfl 18 S2.out (fun a b=>by have _:=b;go_simp;first|done|rfl) ?_
   try simp only[Act.put,Ya,Yb,Yc]
   refine qac.tk 2 rfl 19 S2.out (fun a b=>by have _:=b;go_simp;first|done|rfl) ?_
   try simp only[Act.put,Ya,Yb,Yc]
   refine qac.two (i:=3) (j:=6) (by kernel_rfl) rfl rfl (fun K hK=>?_) (fun K hK=>?_)
   ·have HT:=qaa (qbk R2.out DK.out (by decide))
    unfold tkV at HT;rw[←HZ.out] at HT;go_simp;refine HT.out.mono ?_;rintro e w3 ⟨rfl,r3,k3⟩;have R3:=qaa r3;have B3:=qaa ((k3.block B (Yd B2.out) nB).trans B2.out);have Q3:=qaa ((k3.block Q (Yd Q2.out) nQ).trans Q2.out);have K3:=qaa ((Kept.of_below (F:=fun k=>k=rp) XB.out).trans k3);have S3:=qaa (SF.out w3 B3.out);refine hK _ _ S3.out ?_;clear hK K r3 k3 R2 B2 Q2 XB S2 HT
    try simp only[Act.put,Ya,Yb,Yc]
    refine qac.tk 4 rfl 21 S3.out (fun a b=>by have _:=b;go_simp;first|done|rfl) ?_
    try simp only[Act.put,Ya,Yb,Yc]
    refine qac.tk 5 rfl 22 S3.out (fun a b=>by have _:=b;go_simp;first|done|rfl) ?_
    try simp only[Act.put,Ya,Yb,Yc]
    have X4:Hid (Below w3.heap.size w3 (w3.alloc (.cells #[.int .i64 0,.string ⟨#[]⟩,.string ⟨#[]⟩,.slice none 0 0,.slice none 0 0,.slice none 0 0,.slice none 0 0,.int .i64 0] 60))):=al Yj _;have B4:=qaa ((X4.out.block B (Yd B3.out)).trans B3.out);have S4:=qaa (SF.out (w3.alloc (.cells #[.int .i64 0,.string ⟨#[]⟩,.string ⟨#[]⟩,.slice none 0 0,.slice none 0 0,.slice none 0 0,.slice none 0 0,.int .i64 0] 60)) B4.out);refine qac.stq 6 rfl fun K hK=>?_
    go_simp;refine hK _ _ S4.out ?_;clear hK K
    try simp only[Act.put,Ya,Yb,Yc]
    refine qac.lst rfl fun K hK=>?_
    go_simp;refine hK _ _ ?_;clear hK K;clear B4 S4 X4 S3 SF hf;have X4:Hid (Below w3.heap.size w3 (w3.alloc (.cells #[.int .i64 4,.string ⟨#[]⟩,.string ⟨#[]⟩,.slice none 0 0,.slice none 0 0,.slice none 0 0,.slice none 0 0,.int .i64 z.p] 60))):=al Yj _;have P4:=qaa (Yh w3 (.cells #[.int .i64 4,.string ⟨#[]⟩,.string ⟨#[]⟩,.slice none 0 0,.slice none 0 0,.slice none 0 0,.slice none 0 0,.int .i64 z.p] 60));have BK:Hid (Q<w3.heap.size∧W.heap.size≤w3.heap.size):=by have:=Yd Q3.out;have:=Bd.out;unfold Hid;omega
    have R4:=qaa (R3.out.below X4.out);have B4:=qaa ((X4.out.block B (Yd B3.out)).trans B3.out);have Q4:=qaa ((X4.out.block Q (Yd Q3.out)).trans Q3.out);have K4:=qaa (K3.out.trans (Kept.of_below X4.out));clear R3 B3 Q3 K3 X4
    try go_wp2
    go_meet;exact⟨_,rfl,P4,BK,R4,B4,Q4,K4⟩
   ·have X3:Hid (Below w2.heap.size w2 (w2.alloc (.cells #[.int .i64 0,.string ⟨#[]⟩,.string ⟨#[]⟩,.slice none 0 0,.slice none 0 0,.slice none 0 0,.slice none 0 0,.int .i64 0] 60))):=al Yj _
    have P3:=qaa (Yh w2 (.cells #[.int .i64 0,.string ⟨#[]⟩,.string ⟨#[]⟩,.slice none 0 0,.slice none 0 0,.slice none 0 0,.slice none 0 0,.int .i64 0] 60));have R3:=qaa (R2.out.below X3.out);have B3:=qaa ((X3.out.block B (Yd B2.out)).trans B2.out);have Q3:=qaa ((X3.out.block Q (Yd Q2.out)).trans Q2.out);have S3:=qaa (SF.out _ B3.out);have XC:=qaa (bt XB.out X3.out Yi);go_simp;refine hK _ _ S3.out ?_;clear hK K;obtain⟨P,hP⟩:∃P,P=w2.heap.size:=⟨_,rfl⟩;rw[←hP] at P3;have BK:Hid (Q<P∧W.heap.size≤P):=by have:=Yd Q2.out;have:=Bd.out;unfold Hid;omega
    try simp only[Act.put,Ya,Yb,Yc]
    rw[←hP];clear X3 XB R2 B2 Q2 S2 hP;generalize w2.alloc (.cells #[.int .i64 0,.string ⟨#[]⟩,.string ⟨#[]⟩,.slice none 0 0,.slice none 0 0,.slice none 0 0,.slice none 0 0,.int .i64 0] 60)=wq at *;have HT:=qaa (qbk R3.out DK.out (by decide));unfold tkV at HT;rw[←HZ.out] at HT;refine qac.stq 3 rfl fun K hK=>?_
    go_simp;refine HT.out.mono ?_;rintro e w3 ⟨rfl,r3,k3⟩;have nP:P≠rp:=by have:=Bc.out;have:=BK.out;have:=Bd.out;omega
    have R4:=qaa r3;have B4:=qaa ((k3.block B (Yd B3.out) nB).trans B3.out);have Q4:=qaa ((k3.block Q (Yd Q3.out) nQ).trans Q3.out);have P4:=qaa ((k3.block P (Yd P3.out) nP).trans P3.out);have K4:=qaa ((Kept.of_below (F:=fun k=>k=rp) XC.out).trans k3);have S4:=qaa (SF.out w3 B4.out);refine hK _ _ S4.out ?_;clear hK K r3 k3 R3 B3 Q3 XC S3 HT P3
    try simp only[Act.put,Ya,Yb,Yc]
    refine qac.tk 4 rfl 21 S4.out (fun a b=>by have _:=b;go_simp;first|done|rfl) ?_
    try simp only[Act.put,Ya,Yb,Yc]
    refine qac.tk 5 rfl 22 S4.out (fun a b=>by have _:=b;go_simp;first|done|rfl) ?_
    try simp only[Act.put,Ya,Yb,Yc]
    obtain⟨⟨_,p0⟩,f0,⟨_,p1⟩,f1,⟨_,p2⟩,f2,⟨_,p3⟩,f3,⟨_,p4⟩,f4,⟨_,p5⟩,f5,⟨_,p6⟩,f6,⟨_,p7⟩,f7,Be,Bf⟩:=st8 P4.out (.int .i64 4) (.string ⟨#[]⟩) (.string ⟨#[]⟩) (.slice none 0 0) (.slice none 0 0) (.slice none 0 0) (.slice none 0 0) (.int .i64 z.p);have Bg:=qaa Be;have KQ:=qaa Bf;clear Be Bf;refine qac.lst rfl fun K hK=>?_
    go_simp;refine hK _ _ ?_;clear hK K;clear p0 f0 p1 f1 p2 f2 p3 f3 p4 f4 p5 f5 p6 f6 p7 f7 S4 SF hf;generalize ((((((((w3.setCell ⟨P,0,none⟩ (.int .i64 4)).setCell ⟨P,1,none⟩ (.string ⟨#[]⟩)).setCell ⟨P,2,none⟩ (.string ⟨#[]⟩)).setCell ⟨P,3,none⟩ (.slice none 0 0)).setCell ⟨P,4,none⟩ (.slice none 0 0)).setCell ⟨P,5,none⟩ (.slice none 0 0)).setCell ⟨P,6,none⟩ (.slice none 0 0)).setCell ⟨P,7,none⟩ (.int .i64 z.p))=w9 at *;have hl2:B≠P∧Q≠P∧rp≠P∧g≠P:=by have:=Bc.out;have:=Bd.out;have:=BK.out;exact⟨by omega,by omega,by omega,by omega⟩
    have B9:=qaa ((KQ.out.block B (Yd B4.out) hl2.1).trans B4.out);have Q9:=qaa ((KQ.out.block Q (Yd Q4.out) hl2.2.1).trans Q4.out);have R9:=qaa (R4.out.kept KQ.out hl2.2.2.1 hl2.2.2.2);have K9:Hid (Kept (fun k=>k=rp) w w9):=K4.out.fin KQ.out (by have:=BK.out;have:=Bd.out;omega);clear hl2 B4 Q4 R4 K4 KQ P4
    try go_wp2
    go_meet;exact⟨_,rfl,Bg,BK,R9,B9,Q9,K9⟩
  case rest=>
   obtain⟨P,hs5,P4,BK,R4,B4,Q4,K4⟩:=hcut;have hs5:=hs5.symm;subst hs5;have g2:wc.cell? ⟨B,2,none⟩=some (.int .i64 2):=by rw[Ye _ _ _ _ _ _ B4.out];rfl
   have HI:=qaa (HI2.out (i+1) wc (by have:=HN.out;omega) (by have:=HF.out;have:=HN.out;omega) R4.out);have nP:P≠rp:=by have:=Bc.out;have:=BK.out;have:=Bd.out;omega
   go_wp2_with (fail);refine HI.out.mono ?_;intro e w5 hp;cases Bh:qaf Ts f 2 (i+1) with
   |out=>rw[Bh] at hp;exact absurd hp (fun h=>h)
   |bad e0 p=>
    rw[Bh] at hp Bl;obtain⟨he,k3⟩:=hp;unfold pan at he;subst he;exact⟨rfl,qa7.badI Bl.out rfl (K4.out.trans k3)⟩
   |ok c j=>
    have GN:=qaa (qay f 2 (i+1) c j (by decide) (by have:=HN.out;omega) (by have:=HF.out;have:=HN.out;omega) Bh);rw[Bh] at hp Bl;obtain⟨⟨vs,bs,rfl,hct,hnd⟩,r3,k3⟩:=hp;obtain⟨a3,c3,a4,c4,a5,c5,a6,c6,rfl⟩:=hct.eight;have C5:=qaa hct;have Dp:=qaa hnd;have R5:=qaa r3;have Q5:=qaa ((k3.block Q (Yd Q4.out) nQ).trans Q4.out);have P5:=qaa ((k3.block P (Yd P4.out) nP).trans P4.out);have K5:=qaa (K4.out.trans k3);have NP:Hid (P<wc.heap.size):=Yd P4.out;have Pk:Hid (wc.heap.size≤w5.heap.size):=k3.size;have BO:Hid (x=qbl (.mk 4 [] [] [] [] [] [c] z.p) j):=Bl.out;clear Bh hct hnd r3 k3 Bl HI R4 B4 Q4 P4 K4 g2 HI2;have X6:Hid (Below w5.heap.size w5 (w5.alloc (.cells #[.int .i64 c.k,.string ⟨c.nm.toArray⟩,.string ⟨c.tx.toArray⟩,.slice a3 c.pre.length c3,.slice a4 c.sp.length c4,.slice a5 c.ns.length c5,.slice a6 c.kids.length c6,.int .i64 c.p] 60))):=al Yj _;have P6:=qaa ((X6.out.block P (Yd P5.out)).trans P5.out);have h6:(w5.alloc (.cells #[.int .i64 c.k,.string ⟨c.nm.toArray⟩,.string ⟨c.tx.toArray⟩,.slice a3 c.pre.length c3,.slice a4 c.sp.length c4,.slice a5 c.ns.length c5,.slice a6 c.kids.length c6,.int .i64 c.p] 60)).cell? ⟨P,6,none⟩=some (.slice none 0 0):=by rw[Ye _ _ _ _ _ _ P6.out];rfl
    have f6:=Yf _ P 6 _ _ P6.out;have G6:=qaa (Yh w5 (.cells #[.int .i64 c.k,.string ⟨c.nm.toArray⟩,.string ⟨c.tx.toArray⟩,.slice a3 c.pre.length c3,.slice a4 c.sp.length c4,.slice a5 c.ns.length c5,.slice a6 c.kids.length c6,.int .i64 c.p] 60));go_upto_region 5 with fail
    clear h6 f6;obtain⟨G,hG⟩:∃G,G=w5.heap.size:=⟨_,rfl⟩;rw[←hG] at G6;rw[←hG];have NL:Hid (G=w5.heap.size):=hG;have R6:=qaa (R5.out.below X6.out);have Q6:=qaa ((X6.out.block Q (Yd Q5.out)).trans Q5.out);have K6:=qaa (K5.out.trans (Kept.of_below X6.out));have C6:=qaa (C5.out.below X6.out);have Mk:Hid (w5.heap.size<(w5.alloc (.cells #[.int .i64 c.k,.string ⟨c.nm.toArray⟩,.string ⟨c.tx.toArray⟩,.slice a3 c.pre.length c3,.slice a4 c.sp.length c4,.slice a5 c.ns.length c5,.slice a6 c.kids.length c6,.int .i64 c.p] 60)).heap.size):=by unfold Hid;simp
    clear hG R5 Q5 P5 K5;generalize w5.alloc (.cells #[.int .i64 c.k,.string ⟨c.nm.toArray⟩,.string ⟨c.tx.toArray⟩,.slice a3 c.pre.length c3,.slice a4 c.sp.length c4,.slice a5 c.ns.length c5,.slice a6 c.kids.length c6,.int .i64 c.p] 60)=w6 at *;have K7:Hid (Kept (fun k=>k=P) w6 (w6.setCell ⟨P,6,none⟩ (.slice (some ⟨G,0,none⟩) 1 1))):=Kept.setCell (F:=fun k=>k=P) (p:=⟨P,6,none⟩) (Kept.refl _ _) rfl _;have P7:Hid ((w6.setCell ⟨P,6,none⟩ (.slice (some ⟨G,0,none⟩) 1 1)).heap[P]? =some (.cells #[.int .i64 4,.string ⟨#[]⟩,.string ⟨#[]⟩,.slice none 0 0,.slice none 0 0,.slice none 0 0,.slice (some ⟨G,0,none⟩) 1 1,.int .i64 z.p] 60 (0,0))):=by
     have:=qab P6.out 6 (.slice (some ⟨G,0,none⟩) 1 1);simpa [Hid] using this
    have nGP:G≠P:=by have:=NL.out;have:=NP.out;have:=Pk.out;omega
    have G7:=qaa ((K7.out.block G (Yd G6.out) nGP).trans G6.out);have Pm:Hid (Kept (fun k=>k=P) w5 (w6.setCell ⟨P,6,none⟩ (.slice (some ⟨G,0,none⟩) 1 1))):=(Kept.of_below X6.out).trans K7.out;have RW:Hid (qcx (w6.setCell ⟨P,6,none⟩ (.slice (some ⟨G,0,none⟩) 1 1)) W.heap.size P 4 z.p [c] (.slice (some ⟨G,0,none⟩) 1 1) _ bs):=qcx.sole C5.out Dp.out (by have:=BK.out;have:=NP.out;omega) Pm.out (by rw[NL.out];exact Nat.le_refl _) NP.out BK.out.2 Pk.out G7.out P7.out;have hl2:Q≠P∧rp≠P∧g≠P:=by have:=Bc.out;have:=Bd.out;have:=BK.out;exact⟨by omega,by omega,by omega⟩
    have Q7:=qaa ((K7.out.block Q (Yd Q6.out) hl2.1).trans Q6.out);have R7:=qaa (R6.out.kept K7.out hl2.2.1 hl2.2.2);have NQ:Hid (Kept (fun k=>k=rp) w (w6.setCell ⟨P,6,none⟩ (.slice (some ⟨G,0,none⟩) 1 1))):=Kept.trans_new K6.out K7.out (fun k h1 h2=>absurd h1 (by have:=Bd.out;have:=BK.out;rw[h2];omega));clear hl2 Pm K7 P7 G7 G6 P6 C5 C6 X6 K6 R6 Q6;generalize w6.setCell ⟨P,6,none⟩ (.slice (some ⟨G,0,none⟩) 1 1)=w7 at *;obtain⟨q0,q1,q2,q3,q4,q5,q6,q7⟩:=ld8 RW.out.blk;have JX:Hid (Nrw 1048576 (.mk 4 [] [] [] [] [] [c] z.p)):=Nrw.of (by show 1≤1048576;omega) (fun k hk=>by
     have hk:k∈[c]:=hk;rw[List.mem_singleton.1 hk];exact Nrw.mono Dy.out c GN.out.2)
    have JY:Hid (dpt (.mk 4 [] [] [] [] [] [c] z.p)≤1048576):=by
     have e:=qck (.mk 4 [] [] [] [] [] [c] z.p);have:dpt.dptL [c]≤16:=qew.2 (fun k hk=>by rw[List.mem_singleton.1 hk];exact GN.out.1);unfold Hid;rw[e];show dpt.dptL [c]+1≤_;omega
    have NR:=qaa RW.out.ct;by_cases hd:dpt (.mk 4 [] [] [] [] [] [c] z.p)≤16
    ·have HO:=qaa (qmv hd JY.out JX.out NR.out)
     have Bt:Hid (x=.ok (.mk 4 [] [] [] [] [] [c] z.p) j):=by unfold Hid;rw[BO.out];unfold qbl;rw[if_neg (by omega)]
     clear hd BO;go_wp2_with (fail);refine HO.out.mono ?_;rintro e w8 ⟨rfl,x7⟩;have X7:=qaa x7;clear x7 HO q0 q1 q2 q3 q4 q5 q6 q7;have R8:=qaa (R7.out.below X7.out);have Jn:=qaa (RW.out.below X7.out);have Q8:=qaa ((X7.out.block Q (Yd Q7.out)).trans Q7.out);have K8:=qaa (NQ.out.trans (Kept.of_below X7.out));clear R7 RW Q7 NQ X7 NR;obtain⟨⟨_,p0⟩,f0,⟨_,p1⟩,f1,⟨_,p2⟩,f2,⟨_,p3⟩,f3,⟨_,p4⟩,f4,⟨_,p5⟩,f5,⟨_,p6⟩,f6,⟨_,p7⟩,f7,Be,Bf⟩:=st8 Q8.out (.int .i64 4) (.string ⟨#[]⟩) (.string ⟨#[]⟩) (.slice none 0 0) (.slice none 0 0) (.slice none 0 0) (.slice (some ⟨G,0,none⟩) 1 1) (.int .i64 z.p);have Bg:=qaa Be;have KQ:=qaa Bf;clear Be Bf;go_wp2;clear p0 f0 p1 f1 p2 f2 p3 f3 p4 f4 p5 f5 p6 f6 p7 f7;generalize ((((((((w8.setCell ⟨Q,0,none⟩ (.int .i64 4)).setCell ⟨Q,1,none⟩ (.string ⟨#[]⟩)).setCell ⟨Q,2,none⟩ (.string ⟨#[]⟩)).setCell ⟨Q,3,none⟩ (.slice none 0 0)).setCell ⟨Q,4,none⟩ (.slice none 0 0)).setCell ⟨Q,5,none⟩ (.slice none 0 0)).setCell ⟨Q,6,none⟩ (.slice (some ⟨G,0,none⟩) 1 1)).setCell ⟨Q,7,none⟩ (.int .i64 z.p))=w9 at *;obtain⟨q0,q1,q2,q3,q4,q5,q6,q7⟩:=ld8 Bg.out;refine Yg (by simp[results,Tryz.results118,go_sem,q0,q1,q2,q3,q4,q5,q6,q7];try rfl) rfl ?_;refine qa7.okI Bt.out rfl (Jn.out.ct.frame KQ.out (fun k hk=>?_) ?_) (List.nodup_cons.1 Jn.out.nd).2 (R8.out.kept KQ.out ?_ ?_) (K8.out.fin KQ.out ?_)
     ·have:=Bd.out
      rw[hk];omega
     ·have:=Bd.out
      omega
     ·have:=Bc.out
      have:=Bd.out;show ¬rp=Q;omega
     ·have:=Bc.out
      have:=Bd.out;show ¬g=Q;omega
     ·have:=Bd.out
      omega
    ·have HO:=qaa (qkd hd JY.out JX.out NR.out)
     have Bt:Hid (x=.bad 91 z.p):=by unfold Hid;rw[BO.out];unfold qbl;rw[if_pos (by omega)];rfl
     clear hd BO;go_wp2_with (fail);refine HO.out.mono ?_;rintro e w8 ⟨he,x7⟩;unfold pan at he;subst he;exact⟨rfl,qa7.badI Bt.out rfl (NQ.out.trans (Kept.of_below x7))⟩
 ·have hw':isT Ts 1 qg2 i=false:=by simpa using hw
  have Bl:Hid (x=qaf Ts f 3 i):=by unfold Hid;rw[HX.out,if_neg hw]
  rw[hw'] at HW;clear hw hw' HX HI2;go_upto_region 2 with(go_at_call 72;refine HW.out.mono ?_;rintro e w1 ⟨rfl,x1⟩;have X1:=qaa x1;clear x1)
  have R1:=qaa (R0.out.below X1.out);have B1:=qaa ((X1.out.block B (Yd B0.out)).trans B0.out);have Q1:=qaa ((X1.out.block Q (Yd Q0.out)).trans Q0.out);have XA:=qaa (bt X0.out X1.out Yi);clear g0 HW X1 R0 B0 Q0 X0;have g1:w1.cell? ⟨B,1,none⟩=some (.int .i64 4):=by rw[Ye _ _ _ _ _ _ B1.out];rfl
  have HH:=qaa (qld w1);have HI:=qaa (fun V (y:Below w1.heap.size w1 V)=>HI3.out i V (Nat.le_of_lt DU.out) (by have:=HF.out;omega) (R1.out.below y));rw[←Bl.out] at HI;go_wp2_with (go_at_call 138;refine HH.out.mono ?_;rintro e w2 ⟨rfl,x2⟩;have X2:=qaa x2;clear x2);refine(HI.out _ X2.out).mono ?_;intro e w3 hp;have Q2:=qaa ((X2.out.block Q (Yd Q1.out)).trans Q1.out);have XB:=qaa (bt XA.out X2.out Yi);cases Bh:x with
  |out=>rw[Bh] at hp;exact absurd hp (fun h=>h)
  |bad e0 p=>
   rw[Bh] at hp;obtain⟨he,k3⟩:=hp;unfold pan at he;subst he;exact⟨rfl,qa7.badI (by first|exact Bh|rfl) rfl ((Kept.of_below XB.out).trans k3)⟩
  |ok c j=>
   have Ei:=qaa Bh;rw[Bh] at hp;obtain⟨⟨vs,bs,rfl,hct,hnd⟩,r3,k3⟩:=hp;obtain⟨a3,c3,a4,c4,a5,c5,a6,c6,rfl⟩:=hct.eight;have C3:=qaa hct;have Dp:=qaa hnd;have R3:=qaa r3;have Q3:=qaa ((k3.block Q (Yd Q2.out) nQ).trans Q2.out);have K3:=qaa ((Kept.of_below (F:=fun k=>k=rp) XB.out).trans k3);have HS2:Hid (Q<w2.heap.size):=Yd Q2.out;clear Bh hct hnd r3 k3 HI R1 B1 Q1 Q2 X2 XA XB g1 HH Bl;obtain⟨⟨_,p0⟩,f0,⟨_,p1⟩,f1,⟨_,p2⟩,f2,⟨_,p3⟩,f3,⟨_,p4⟩,f4,⟨_,p5⟩,f5,⟨_,p6⟩,f6,⟨_,p7⟩,f7,Be,Bf⟩:=st8 Q3.out (.int .i64 c.k) (.string ⟨c.nm.toArray⟩) (.string ⟨c.tx.toArray⟩) (.slice a3 c.pre.length c3) (.slice a4 c.sp.length c4) (.slice a5 c.ns.length c5) (.slice a6 c.kids.length c6) (.int .i64 c.p);have Bg:=qaa Be;have KQ:=qaa Bf;clear Be Bf;go_wp2;clear p0 f0 p1 f1 p2 f2 p3 f3 p4 f4 p5 f5 p6 f6 p7 f7;generalize ((((((((w3.setCell ⟨Q,0,none⟩ (.int .i64 c.k)).setCell ⟨Q,1,none⟩ (.string ⟨c.nm.toArray⟩)).setCell ⟨Q,2,none⟩ (.string ⟨c.tx.toArray⟩)).setCell ⟨Q,3,none⟩ (.slice a3 c.pre.length c3)).setCell ⟨Q,4,none⟩ (.slice a4 c.sp.length c4)).setCell ⟨Q,5,none⟩ (.slice a5 c.ns.length c5)).setCell ⟨Q,6,none⟩ (.slice a6 c.kids.length c6)).setCell ⟨Q,7,none⟩ (.int .i64 c.p))=w9 at *;obtain⟨q0,q1,q2,q3,q4,q5,q6,q7⟩:=ld8 Bg.out;refine Yg (by simp[results,Tryz.results118,go_sem,q0,q1,q2,q3,q4,q5,q6,q7];try rfl) rfl ?_;refine qa7.okI (by first|exact Ei.out|rfl) rfl (C3.out.frame KQ.out (fun k hk=>?_) ?_) Dp.out (R3.out.kept KQ.out ?_ ?_) (K3.out.fin KQ.out ?_)
   ·have:=HS2.out
    rw[hk];exact this
   ·have:=HS2.out
    have:=Bd.out;omega
   ·have:=Bc.out
    have:=Bd.out;show ¬rp=Q;omega
   ·have:=Bc.out
    have:=Bd.out;show ¬g=Q;omega
   ·have:=Bd.out
    omega
end Go.Proofs.YtlmhofjiobmodaaGreatDoor

