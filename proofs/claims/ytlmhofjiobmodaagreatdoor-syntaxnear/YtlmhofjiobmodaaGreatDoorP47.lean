/-
  The document's item by its contract. Condition: the tokens are a scanner's.
-/
import Derived.Deep.DeepCutAuto
import Derived.Deep.CutBlock
import Derived.Test.YtlmhofjiobmodaaGreatDoorP46
import Derived.Test.YtlmhofjiobmodaaGreatDoorP18
import Derived.Test.YtlmhofjiobmodaaGreatDoorP03
import Derived.Test.YtlmhofjiobmodaaGreatDoorP01
import Derived.Lib.ConvBytes
import Derived.Test.YtlmhofjiobmodaaGreatDoorP05
import Derived.Lib.AppendStr
set_option maxRecDepth 100000
set_option maxHeartbeats 16000000
namespace Go.Proofs.YtlmhofjiobmodaaGreatDoor
open Go.RowKit Go.Lib
def Jk11 (v:Value):Prop:=∃(ik:Int) (inm:ByteArray) (k:Int) (nm tx:ByteArray) (a3:Option Addr) (n3 c3:Nat) (a4:Option Addr) (n4 c4:Nat) (a5:Option Addr) (n5 c5:Nat) (a6:Option Addr) (n6 c6:Nat) (p ip:Int),v=.agg #[.int .i64 ik,.string inm,.int .i64 k,.string nm,.string tx,.slice a3 n3 c3,.slice a4 n4 c4,.slice a5 n5 c5,.slice a6 n6 c6,.int .i64 p,.int .i64 ip]
def qqi (Ts:List Tk) (f i:Nat):PR IT:=if qas Ts i=0 then .bad 90 (tok Ts i).p else qdx Ts f (qas Ts i) i
def qt2 (base rp g cap:Nat) (Ts:List Tk) (w:World) (e q:Int) (x:PR IT) (e':Ending) (w':World):Prop:=
 ∃v i' e1 q1,e'=.returned v∧Jk11 v∧DpA w' base rp g cap Ts i' e1 q1∧Kept (fun k=>k=rp) w w'∧((e1=0→e=0∧q1=0∧∃c vs bs,v=.agg (itV c vs).toArray∧qaj w' w.heap.size c.c vs bs∧bs.Nodup∧x=.ok c i')∧(e1≠0→(e=0→x=.bad e1 q1)∧(e≠0→e1=e∧q1=q)))
theorem qit {Ts:List Tk} {i:Nat}:qas Ts i=if isT Ts 1 qma i=true then 1 else if isT Ts 1 qd8 i=true then 2 else if isT Ts 1 qg5 i=true then 3 else 0:=rfl
theorem qjw {w:World} {base rp g cap:Nat} {Ts:List Tk} {i:Nat} {e q:Int} (hq:e=0→q=0) (h:DpA w base rp g cap Ts i e q) (s:By):Calls Tryz.prog 30 #[.pointer (some ⟨rp,0,none⟩),.string ⟨s.toArray⟩] w fun e' w'=>∃b,e'=.returned (.bool b)∧Below w.heap.size w w'∧(e=0→b=isS Ts s i)∧(e≠0→b=false):=by
 by_cases he:e=0
 ·subst he
  obtain rfl:=hq rfl;refine(qgt h s).mono ?_;rintro e' w' ⟨h1,h2⟩;exact⟨_,h1,h2,fun _=>rfl,fun h=>absurd rfl h⟩
 ·refine(qkv h he s).mono ?_
  rintro e' w' ⟨h1,h2⟩;exact⟨_,h1,h2,fun h=>absurd h he,fun _=>rfl⟩
theorem qol {w:World} {base rp g cap:Nat} {Ts:List Tk} {f i:Nat} {e q:Int} (hg:GdT Ts) (hf:4*Ts.length+5≤f) (hq:e=0→q=0) (h:DpA w base rp g cap Ts i e q):
 Calls Tryz.prog 32 #[.pointer (some ⟨rp,0,none⟩)] w (qt2 base rp g cap Ts w e q (qqi Ts f i)):=by
 obtain⟨x,hx⟩:∃x,x=qqi Ts f i:=⟨_,rfl⟩;rw[←hx];obtain⟨X,hX⟩:∃X,X=if e=0 then x else .bad e q:=⟨_,rfl⟩
 have Dx:=qaa hX;have Du:=qaa hx;obtain⟨z,hz⟩:∃z,z=tok Ts i:=⟨_,rfl⟩;have HZ:=qaa hz;have Bp:=qaa hg;have HF:=qaa hf;have Jy:=qaa hq;obtain⟨Q,hQ⟩:∃Q,Q=w.heap.size:=⟨_,rfl⟩;obtain⟨W,hW⟩:∃W,W=w.alloc (.cells #[.int .i64 0,.string ⟨#[]⟩,.int .i64 0,.string ⟨#[]⟩,.string ⟨#[]⟩,.slice none 0 0,.slice none 0 0,.slice none 0 0,.slice none 0 0,.int .i64 0,.int .i64 0] 62):=⟨_,rfl⟩;have X0:=qaa (show Below w.heap.size w W by rw[hW];exact al Yj _);have Q0:=qaa (show W.heap[Q]? =some (.cells #[.int .i64 0,.string ⟨#[]⟩,.int .i64 0,.string ⟨#[]⟩,.string ⟨#[]⟩,.slice none 0 0,.slice none 0 0,.slice none 0 0,.slice none 0 0,.int .i64 0,.int .i64 0] 62 (0,0)) by rw[hW,hQ];exact Yh w _);have D:=qaa (h.below X0.out);have Bi:=qaa hQ;have Bc:Hid (rp<Q∧g<Q):=by have:=h.gl;unfold Hid;omega
 have DU:=qaa h.lt;clear hX hx hz hg hf hq h;go_enter Tryz.func32,Tryz.ntmps32;go_upto_region 1 with fail
 rw[←hQ,←hW];clear hQ hW;have HQ:Hid (∀V,Below W.heap.size W V→(V.cell? ⟨rp,0,none⟩=some (.slice (some ⟨g,0,none⟩) Ts.length cap)∧V.cell? ⟨rp,1,none⟩=some (.int .i64 (i:Nat)))∧V.cell? ⟨g,i*6,none⟩=some (.int .i64 z.k)∧V.cell? ⟨g,i*6+1,none⟩=some (.string ⟨z.t.toArray⟩)∧V.cell? ⟨g,i*6+2,none⟩=some (.int .i64 z.n)∧V.cell? ⟨g,i*6+3,none⟩=some (.int .i64 z.a)∧V.cell? ⟨g,i*6+4,none⟩=some (.int .i64 z.b)∧V.cell? ⟨g,i*6+5,none⟩=some (.int .i64 z.p)):=fun V y=>by
  have h:=D.out.below y;rw[HZ.out];exact⟨h.two,h.cells⟩
 have hlt:(i:Int)<Ts.length:=by have:=D.out.lt;omega
 refine qam (S:=fun V=>Below W.heap.size W V) 13 (by kernel_rfl) ?_;have Bb:Hid (Below W.heap.size W W.drew):=Yj.drew;generalize W.drew=vd at *;refine qac.tk 0 rfl 7 Bb.out (fun a b=>by obtain⟨⟨_,_⟩,_,_,_,_,_,_⟩:=HQ.out a b;go_simp;first|done|rfl) ?_
 try simp only[Act.put,Ya,Yb,Yc]
 refine qac.tk 1 rfl 8 Bb.out (fun a b=>by obtain⟨⟨_,_⟩,_,_,_,_,_,_⟩:=HQ.out a b;go_simp;first|done|rfl) ?_
 try simp only[Act.put,Ya,Yb,Yc]
 refine qac.tk 2 rfl 9 Bb.out (fun a b=>by obtain⟨⟨_,_⟩,_,_,_,_,_,_⟩:=HQ.out a b;go_simp;first|done|rfl) ?_
 try simp only[Act.put,Ya,Yb,Yc]
 refine qac.tk 3 rfl 10 Bb.out (fun a b=>by obtain⟨⟨_,_⟩,_,_,_,_,_,_⟩:=HQ.out a b;go_simp;first|done|rfl) ?_
 try simp only[Act.put,Ya,Yb,Yc]
 refine qac.tk 4 rfl 11 Bb.out (fun a b=>by obtain⟨⟨_,_⟩,_,_,_,_,_,_⟩:=HQ.out a b;go_simp;first|done|rfl) ?_
 try simp only[Act.put,Ya,Yb,Yc]
 refine qac.tk 5 rfl 12 Bb.out (fun a b=>by obtain⟨⟨_,_⟩,_,_,_,_,_,_⟩:=HQ.out a b;go_simp;first|done|rfl) ?_
 try simp only[Act.put,Ya,Yb,Yc]
 refine qac.tk 6 rfl 13 Bb.out (fun a b=>by obtain⟨⟨_,_⟩,_,_,_,_,_,_⟩:=HQ.out a b;go_simp;first|done|rfl) ?_
 try simp only[Act.put,Ya,Yb,Yc]
 refine qac.tk 7 rfl 14 Bb.out (fun a b=>by obtain⟨⟨_,_⟩,_,_,_,_,_,_⟩:=HQ.out a b;go_simp;first|done|rfl) ?_
 try simp only[Act.put,Ya,Yb,Yc]
 refine qac.tk 8 rfl 15 Bb.out (fun a b=>by obtain⟨⟨_,_⟩,_,_,_,_,_,_⟩:=HQ.out a b;go_simp;first|done|rfl) ?_
 try simp only[Act.put,Ya,Yb,Yc]
 refine qac.tk 9 rfl 16 Bb.out (fun a b=>by obtain⟨⟨_,_⟩,_,_,_,_,_,_⟩:=HQ.out a b;go_simp;first|done|rfl) ?_
 try simp only[Act.put,Ya,Yb,Yc]
 refine qac.tk 10 rfl 17 Bb.out (fun a b=>by obtain⟨⟨_,_⟩,_,_,_,_,_,_⟩:=HQ.out a b;go_simp;first|done|rfl) ?_
 try simp only[Act.put,Ya,Yb,Yc]
 refine qac.tk 11 rfl 18 Bb.out (fun a b=>by obtain⟨⟨_,_⟩,_,_,_,_,_,_⟩:=HQ.out a b;go_simp;first|done|rfl) ?_
 try simp only[Act.put,Ya,Yb,Yc]
 have BL:Hid (Below W.heap.size W (vd.alloc (.cells #[.int .i64 0,.string ⟨#[]⟩,.int .i64 0,.string ⟨#[]⟩,.string ⟨#[]⟩,.slice none 0 0,.slice none 0 0,.slice none 0 0,.slice none 0 0,.int .i64 0,.int .i64 0] 62))):=al Bb.out _;refine qac.stq 12 rfl fun K hK=>?_
 go_simp;refine hK _ _ BL.out ?_;clear hK K
 try simp only[Act.put,Ya,Yb,Yc]
 refine qac.lst rfl fun K hK=>?_
 go_simp;refine hK _ _ ?_;clear hK K hlt BL;have XT:Hid (Below W.heap.size W (vd.alloc (.cells #[.int .i64 0,.string ⟨#[]⟩,.int .i64 0,.string ⟨#[]⟩,.string ⟨#[]⟩,.slice none 0 0,.slice none 0 0,.slice none 0 0,.slice none 0 0,.int .i64 0,.int .i64 z.p] 62))):=al Bb.out _;have P1:=qaa (Yh vd (.cells #[.int .i64 0,.string ⟨#[]⟩,.int .i64 0,.string ⟨#[]⟩,.string ⟨#[]⟩,.slice none 0 0,.slice none 0 0,.slice none 0 0,.slice none 0 0,.int .i64 0,.int .i64 z.p] 62));obtain⟨P,hP⟩:∃P,P=vd.heap.size:=⟨_,rfl⟩;rw[←hP] at P1;rw[←hP];have Bq:Hid (Q<P):=by have:=Bb.out.size;have:=Yd Q0.out;unfold Hid;omega
 have D1:=qaa (D.out.below XT.out);have Q1:=qaa ((XT.out.block Q (Yd Q0.out)).trans Q0.out);have XA:=qaa (bt X0.out XT.out Yi);have nQ:Q≠rp:=by have:=Bc.out;omega
 have nP:P≠rp:=by have:=Bc.out;have:=Bq.out;omega
 have hl2:Q≠P∧rp≠P∧g≠P:=by have:=Bc.out;have:=Bq.out;exact⟨by omega,by omega,by omega⟩
 clear HQ Bb hP D Q0 X0 XT;generalize vd.alloc (.cells #[.int .i64 0,.string ⟨#[]⟩,.int .i64 0,.string ⟨#[]⟩,.string ⟨#[]⟩,.slice none 0 0,.slice none 0 0,.slice none 0 0,.slice none 0 0,.int .i64 0,.int .i64 z.p] 62)=w1 at *;go_upto_region 2 with fail
 have HI1:=qaa (qjw Jy.out D1.out qma);have hwl:(⟨qma.toArray⟩:ByteArray)=⟨#[108,101,116]⟩:=rfl;rw[hwl] at HI1;clear hwl;go_upto_region 3 with(go_at_call 30;refine HI1.out.mono ?_;rintro e' w2 ⟨b1,rfl,x2,h21,h22⟩;have X2:=qaa x2;have NY:=qaa h21;have NZ:=qaa h22;clear x2 h21 h22)
 have D2:=qaa (D1.out.below X2.out);have Q2:=qaa ((X2.out.block Q (Yd Q1.out)).trans Q1.out);have P2:=qaa ((X2.out.block P (Yd P1.out)).trans P1.out);have XB:=qaa (bt XA.out X2.out Yi);clear HI1 X2 D1 Q1 P1 XA;have HI1:=qaa (qjw Jy.out D2.out qd8);have hwl:(⟨qd8.toArray⟩:ByteArray)=⟨#[97,108,108,111,119]⟩:=rfl;rw[hwl] at HI1;clear hwl;go_upto_region 4 with(go_at_call 30;refine HI1.out.mono ?_;rintro e' w3 ⟨b2,rfl,x3,h31,h32⟩;have X3:=qaa x3;have Oa:=qaa h31;have Ob:=qaa h32;clear x3 h31 h32)
 have D3:=qaa (D2.out.below X3.out);have Q3:=qaa ((X3.out.block Q (Yd Q2.out)).trans Q2.out);have P3:=qaa ((X3.out.block P (Yd P2.out)).trans P2.out);have XC:=qaa (bt XB.out X3.out Yi);clear HI1 X3 D2 Q2 P2 XB;have HI1:=qaa (qjw Jy.out D3.out qg5);have hwl:(⟨qg5.toArray⟩:ByteArray)=⟨#[100,101,110,121]⟩:=rfl;rw[hwl] at HI1;clear hwl;go_upto_block 0 with(go_at_call 30;refine HI1.out.mono ?_;rintro e' w4 ⟨b3,rfl,x4,Je,Jf⟩;have X4:=qaa x4;have Gx:=qaa Je;have Gy:=qaa Jf;clear x4 Je Jf)
 have D4:=qaa (D3.out.below X4.out);have Q4:=qaa ((X4.out.block Q (Yd Q3.out)).trans Q3.out);have P4:=qaa ((X4.out.block P (Yd P3.out)).trans P3.out);have XD:=qaa (bt XC.out X4.out Yi);clear HI1 X4 D3 Q3 P3 XC;have HKK:Hid (e=0→qas Ts i=if b1=true then 1 else if b2=true then 2 else if b3=true then 3 else 0):=fun he=>by
  rw[qit,←qbo Bp.out (by decide) DU.out,←qbo Bp.out (by decide) DU.out,←qbo Bp.out (by decide) DU.out,NY.out he,Oa.out he,Gx.out he]
 have Jz:Hid (e≠0→b1=false∧b2=false∧b3=false):=fun he=>⟨NZ.out he,Ob.out he,Gy.out he⟩
 clear NY NZ Oa Ob Gx Gy;go_cut [26] (fun _ wx=>∃(kk i5:Nat) (e5 q5:Int),Hid (wx.heap[P]? =some (.cells #[.int .i64 (kk:Nat),.string ⟨#[]⟩,.int .i64 0,.string ⟨#[]⟩,.string ⟨#[]⟩,.slice none 0 0,.slice none 0 0,.slice none 0 0,.slice none 0 0,.int .i64 0,.int .i64 z.p] 62 (0,0)))∧Hid (DpA wx base rp g cap Ts i5 e5 q5)∧Hid (wx.heap[Q]? =some (.cells #[.int .i64 0,.string ⟨#[]⟩,.int .i64 0,.string ⟨#[]⟩,.string ⟨#[]⟩,.slice none 0 0,.slice none 0 0,.slice none 0 0,.slice none 0 0,.int .i64 0,.int .i64 0] 62 (0,0)))∧Hid (Kept (fun k=>k=rp) w wx)∧Hid (e5=0→i5=i∧e=0∧q5=0∧kk=qas Ts i∧qas Ts i≠0)∧Hid (e5≠0→X=.bad e5 q5)∧Hid (b1=true↔kk=1))
 case first=>
  cases b1 with
  |true=>
   have he:Hid (e=0):=by
    by_cases he:e=0
    ·exact he
    ·have:=Jz.out he
     exact absurd this.1 (by decide)
   have Bn:Hid (qas Ts i=1):=HKK.out he.out;have g0:w4.cell? ⟨P,0,none⟩=some (.int .i64 0):=by rw[Ye _ _ _ _ _ _ P4.out];rfl
   have f0:=Yf w4 P 0 _ _ P4.out;have P5:Hid ((w4.setCell ⟨P,0,none⟩ (.int .i64 1)).heap[P]? =some (.cells #[.int .i64 1,.string ⟨#[]⟩,.int .i64 0,.string ⟨#[]⟩,.string ⟨#[]⟩,.slice none 0 0,.slice none 0 0,.slice none 0 0,.slice none 0 0,.int .i64 0,.int .i64 z.p] 62 (0,0))):=by
    have:=qab P4.out 0 (.int .i64 1);simpa [Hid] using this
   have K5:Hid (Kept (fun k=>k=P) w4 (w4.setCell ⟨P,0,none⟩ (.int .i64 1))):=Kept.setCell (F:=fun k=>k=P) (p:=⟨P,0,none⟩) (Kept.refl _ _) rfl _;go_wp2;clear g0 f0;generalize w4.setCell ⟨P,0,none⟩ (.int .i64 1)=w5 at *;have D5:=qaa (D4.out.kept K5.out hl2.2.1 hl2.2.2);have Q5:=qaa ((K5.out.block Q (Yd Q4.out) hl2.1).trans Q4.out);have KA:Hid (Kept (fun k=>k=rp) w w5):=(Kept.of_below XD.out).fin K5.out (by have:=Bq.out;have:=Bi.out;omega);go_meet;exact⟨1,i,e,q,P5,D5,Q5,KA,fun _=>⟨rfl,he.out,Jy.out he.out,Bn.out.symm,by rw[Bn.out];decide⟩,fun h=>absurd he.out h,(by first|exact⟨fun _=>rfl,fun _=>rfl⟩|exact⟨fun _=>rfl,fun _=>trivial⟩|exact⟨fun h=>(by cases h),fun h=>(by cases h)⟩|(simp[Hid]))⟩
  |false=>
   cases b2 with
   |true=>
    have he:Hid (e=0):=by
     by_cases he:e=0
     ·exact he
     ·have:=Jz.out he
      exact absurd this.2.1 (by decide)
    have Bn:Hid (qas Ts i=2):=HKK.out he.out;have g0:w4.cell? ⟨P,0,none⟩=some (.int .i64 0):=by rw[Ye _ _ _ _ _ _ P4.out];rfl
    have f0:=Yf w4 P 0 _ _ P4.out;have P5:Hid ((w4.setCell ⟨P,0,none⟩ (.int .i64 2)).heap[P]? =some (.cells #[.int .i64 2,.string ⟨#[]⟩,.int .i64 0,.string ⟨#[]⟩,.string ⟨#[]⟩,.slice none 0 0,.slice none 0 0,.slice none 0 0,.slice none 0 0,.int .i64 0,.int .i64 z.p] 62 (0,0))):=by
     have:=qab P4.out 0 (.int .i64 2);simpa [Hid] using this
    have K5:Hid (Kept (fun k=>k=P) w4 (w4.setCell ⟨P,0,none⟩ (.int .i64 2))):=Kept.setCell (F:=fun k=>k=P) (p:=⟨P,0,none⟩) (Kept.refl _ _) rfl _;go_wp2;clear g0 f0;generalize w4.setCell ⟨P,0,none⟩ (.int .i64 2)=w5 at *;have D5:=qaa (D4.out.kept K5.out hl2.2.1 hl2.2.2);have Q5:=qaa ((K5.out.block Q (Yd Q4.out) hl2.1).trans Q4.out);have KA:Hid (Kept (fun k=>k=rp) w w5):=(Kept.of_below XD.out).fin K5.out (by have:=Bq.out;have:=Bi.out;omega);go_meet;exact⟨2,i,e,q,P5,D5,Q5,KA,fun _=>⟨rfl,he.out,Jy.out he.out,Bn.out.symm,by rw[Bn.out];decide⟩,fun h=>absurd he.out h,(by first|exact⟨fun _=>rfl,fun _=>rfl⟩|exact⟨fun _=>rfl,fun _=>trivial⟩|exact⟨fun h=>(by cases h),fun h=>(by cases h)⟩|(simp[Hid]))⟩
   |false=>
    cases b3 with
    |true=>
     have he:Hid (e=0):=by
      by_cases he:e=0
      ·exact he
      ·have:=Jz.out he
       exact absurd this.2.2 (by decide)
     have Bn:Hid (qas Ts i=3):=HKK.out he.out;have g0:w4.cell? ⟨P,0,none⟩=some (.int .i64 0):=by rw[Ye _ _ _ _ _ _ P4.out];rfl
     have f0:=Yf w4 P 0 _ _ P4.out;have P5:Hid ((w4.setCell ⟨P,0,none⟩ (.int .i64 3)).heap[P]? =some (.cells #[.int .i64 3,.string ⟨#[]⟩,.int .i64 0,.string ⟨#[]⟩,.string ⟨#[]⟩,.slice none 0 0,.slice none 0 0,.slice none 0 0,.slice none 0 0,.int .i64 0,.int .i64 z.p] 62 (0,0))):=by
      have:=qab P4.out 0 (.int .i64 3);simpa [Hid] using this
     have K5:Hid (Kept (fun k=>k=P) w4 (w4.setCell ⟨P,0,none⟩ (.int .i64 3))):=Kept.setCell (F:=fun k=>k=P) (p:=⟨P,0,none⟩) (Kept.refl _ _) rfl _;go_wp2;clear g0 f0;generalize w4.setCell ⟨P,0,none⟩ (.int .i64 3)=w5 at *;have D5:=qaa (D4.out.kept K5.out hl2.2.1 hl2.2.2);have Q5:=qaa ((K5.out.block Q (Yd Q4.out) hl2.1).trans Q4.out);have KA:Hid (Kept (fun k=>k=rp) w w5):=(Kept.of_below XD.out).fin K5.out (by have:=Bq.out;have:=Bi.out;omega);go_meet;exact⟨3,i,e,q,P5,D5,Q5,KA,fun _=>⟨rfl,he.out,Jy.out he.out,Bn.out.symm,by rw[Bn.out];decide⟩,fun h=>absurd he.out h,(by first|exact⟨fun _=>rfl,fun _=>rfl⟩|exact⟨fun _=>rfl,fun _=>trivial⟩|exact⟨fun h=>(by cases h),fun h=>(by cases h)⟩|(simp[Hid]))⟩
    |false=>
     have L4:Hid (Lv X (fun l=>.bad 90 (tok Ts l).p) i e q):=by
      by_cases he:e=0
      ·refine .inl ⟨he,Jy.out he,?_⟩
       rw[Dx.out,if_pos he,Du.out];unfold qqi;rw[if_pos (by have:=HKK.out he;simpa using this)]
      ·exact .inr ⟨he,by rw[Dx.out,if_neg he]⟩
     have HT:=qaa (qoi D4.out L4.out);go_wp2_with (go_at_call 55;refine HT.out.mono ?_;rintro e' w5 ⟨rfl,i5,e5,q5,d5,Oc,Od,k5⟩;have D5:=qaa d5;have Ps:=qaa Oc;have Pt:=qaa Od;have K5:=qaa k5;clear d5 Oc Od k5);have P5:=qaa ((K5.out.block P (Yd P4.out) nP).trans P4.out);have Q5:=qaa ((K5.out.block Q (Yd Q4.out) nQ).trans Q4.out);have KA:Hid (Kept (fun k=>k=rp) w w5):=(Kept.of_below XD.out).trans K5.out;go_meet;exact⟨0,i5,e5,q5,P5,D5,Q5,KA,fun h=>absurd h Ps.out,fun _=>Pt.out,⟨fun h=>(by cases h),fun h=>(by cases h)⟩⟩
 case rest=>
  obtain⟨kk,i5,e5,q5,P5,D5,Q5,K5,Ml,Mm,ML⟩:=hcut;clear P4 D4 Q4 XD HKK Jz;generalize wc=w5 at *;have ge:=D5.out.four.2.2.1;go_upto_if 40 with fail
  clear ge;go_cut [45] (fun _ wx=>∃i6,Hid (DpA wx base rp g cap Ts i6 e5 q5)∧Hid (e5=0→i6=i+1)∧Hid (Kept (fun k=>k=rp) w5 wx))
  case first=>
   by_cases he:e5=0
   ·have EZ:(e5==0)=true:=by simpa using he
    have HN:Hid (i5+1<Ts.length):=D5.out.next (by
     obtain⟨h1,h2,h3,h4,h5⟩:=Ml.out he;rw[h1];rcases qdj Ts qe8 i 3 1 with h|⟨_,_,h6⟩
     ·exact absurd h h5
     ·rw[qb0 h6];decide)
    have Ga:=qaa (Ml.out he).1;clear he;go_upto_region 13 with fail
    clear EZ;obtain⟨_,c1⟩:=D5.out.two;have f1:=Yf w5 rp 1 _ _ D5.out.blk;have fw:IntKind.i64.wrap ((i5:Int)+1)=(i5:Int)+1:=by have:=D5.out.few;have:=HN.out;simp[IntKind.wrap,IntKind.bits,IntKind.signed];omega
    have D6:=qaa (D5.out.step HN.out);have K6:Hid (Kept (fun k=>k=rp) w5 (w5.setCell ⟨rp,1,none⟩ (.int .i64 ((i5:Int)+1)))):=Kept.setCell (F:=fun k=>k=rp) (p:=⟨rp,1,none⟩) (Kept.refl _ _) rfl _;go_wp2;clear c1 f1 fw;go_meet;exact⟨i5+1,D6,fun _=>by rw[Ga.out],K6⟩
   ·have EZ:(e5==0)=false:=by simpa using he
    have Gb:=qaa he;clear he;go_wp2;go_meet;exact⟨i5,D5,fun h=>absurd h Gb.out,Kept.refl _ _⟩
  case rest=>
   obtain⟨i6,D6,Oe,K6⟩:=hcut;have P6:=qaa ((K6.out.block P (Yd P5.out) nP).trans P5.out);have Q6:=qaa ((K6.out.block Q (Yd Q5.out) nQ).trans Q5.out);have KB:=qaa (K5.out.trans K6.out);have L6:Hid (Lv X (fun l=>(qa9 Ts 2 l).bind fun u l=>(if kk=1 then qak Ts 7 [61] l else qak Ts 1 qg6 l).bind fun _ m=>(qaf Ts f 0 m).bind fun c n=>(qak Ts 7 [59] n).bind fun _ o=>.ok ⟨kk,u.t,c,z.p⟩ o) i6 e5 q5):=by
    by_cases he:e5=0
    ·obtain⟨h1,h2,h3,h4,h5⟩:=Ml.out he
     refine .inl ⟨he,h3,?_⟩;have hk1:(tok Ts i).k=1:=by
      rcases qdj Ts qe8 i 3 1 with h|⟨_,_,h6⟩
      ·exact absurd h h5
      ·exact qb0 h6
     rw[Dx.out,if_pos h2,Du.out];unfold qqi;rw[if_neg h5,←h4,Oe.out he];unfold qdx;rw[qcb hk1,←HZ.out];rfl
    ·exact .inr ⟨he,Mm.out he⟩
   clear K6 P5 Q5 K5 D5 Ml Mm Oe;generalize wc=w6 at *;have HT:=qaa (qcl (by decide) D6.out L6.out);have hf:=qmh;go_upto_region 14 with fail
   go_wp2_with (fail);refine HT.out.mono ?_;rintro e' w7 ⟨u,i7,e7,q7,rfl,d7,l7,_,k7⟩;have D7:=qaa d7;have L7:=qaa l7;have P7:=qaa ((k7.block P (Yd P6.out) nP).trans P6.out);have Q7:=qaa ((k7.block Q (Yd Q6.out) nQ).trans Q6.out);have KC:=qaa (KB.out.trans k7);clear d7 l7 k7 HT D6 P6 Q6 KB L6;have g0:w7.cell? ⟨P,1,none⟩=some (.string ⟨#[]⟩):=by rw[Ye _ _ _ _ _ _ P7.out];rfl
   have f0:=Yf w7 P 1 _ _ P7.out;have P8:Hid ((w7.setCell ⟨P,1,none⟩ (.string ⟨u.t.toArray⟩)).heap[P]? =some (.cells #[.int .i64 (kk:Nat),.string ⟨u.t.toArray⟩,.int .i64 0,.string ⟨#[]⟩,.string ⟨#[]⟩,.slice none 0 0,.slice none 0 0,.slice none 0 0,.slice none 0 0,.int .i64 0,.int .i64 z.p] 62 (0,0))):=by
    have:=qab P7.out 1 (.string ⟨u.t.toArray⟩);simpa [Hid] using this
   have K8:Hid (Kept (fun k=>k=P) w7 (w7.setCell ⟨P,1,none⟩ (.string ⟨u.t.toArray⟩))):=Kept.setCell (F:=fun k=>k=P) (p:=⟨P,1,none⟩) (Kept.refl _ _) rfl _;go_upto_if 52 with fail
   clear g0 f0 hf;generalize w7.setCell ⟨P,1,none⟩ (.string ⟨u.t.toArray⟩)=w8 at *;have D8:=qaa (D7.out.kept K8.out hl2.2.1 hl2.2.2);have Q8:=qaa ((K8.out.block Q (Yd Q7.out) hl2.1).trans Q7.out);have KD:Hid (Kept (fun k=>k=rp) w w8):=KC.out.fin K8.out (by have:=Bq.out;have:=Bi.out;omega);clear K8 D7 Q7 P7 KC;go_cut [54] (fun _ wx=>∃(iA:Nat) (eA qA:Int),Hid (DpA wx base rp g cap Ts iA eA qA)∧Hid (Lv X (fun m=>(qaf Ts f 0 m).bind fun c n=>(qak Ts 7 [59] n).bind fun _ o=>.ok ⟨kk,u.t,c,z.p⟩ o) iA eA qA)∧Hid (Kept (fun k=>k=rp) w8 wx))
   case first=>
    cases b1 with
    |true=>
     have hk1:kk=1:=ML.out.1 rfl;have L8:Hid (Lv X (fun l=>(qak Ts 7 [61] l).bind fun _ m=>(qaf Ts f 0 m).bind fun c n=>(qak Ts 7 [59] n).bind fun _ o=>.ok ⟨kk,u.t,c,z.p⟩ o) i7 e7 q7):=L7.out.map (by rw[if_pos hk1]);clear hk1 L7;have HT:=qaa (qa8 (fun l hl=>qa4 Bp.out rfl hl) D8.out L8.out);go_wp2_with (go_at_call 57;refine HT.out.mono ?_;rintro e' wA ⟨rfl,iA,eA,qA,dA,lA,_,kA⟩;have DA:=qaa dA;have LA:=qaa lA;have KA:=qaa kA;clear dA lA kA);go_meet;exact⟨iA,eA,qA,DA,LA,KA⟩
    |false=>
     have hk1:¬kk=1:=fun h=>by have:=ML.out.2 h;cases this
     have L8:Hid (Lv X (fun l=>(qak Ts 1 qg6 l).bind fun _ m=>(qaf Ts f 0 m).bind fun c n=>(qak Ts 7 [59] n).bind fun _ o=>.ok ⟨kk,u.t,c,z.p⟩ o) i7 e7 q7):=L7.out.map (by rw[if_neg hk1]);clear hk1 L7;have HT:=qaa (qa8 (fun l hl=>qbo Bp.out (by decide) hl) D8.out L8.out);have hwl:(⟨qg6.toArray⟩:ByteArray)=⟨#[119,104,101,110]⟩:=rfl;rw[hwl] at HT;clear hwl;go_wp2_with (go_at_call 57;refine HT.out.mono ?_;rintro e' wA ⟨rfl,iA,eA,qA,dA,lA,_,kA⟩;have DA:=qaa dA;have LA:=qaa lA;have KA:=qaa kA;clear dA lA kA);go_meet;exact⟨iA,eA,qA,DA,LA,KA⟩
   case rest=>
    obtain⟨iA,eA,qA,DA,LA,KA⟩:=hcut;have PA:=qaa ((KA.out.block P (Yd P8.out) nP).trans P8.out);have QA:=qaa ((KA.out.block Q (Yd Q8.out) nQ).trans Q8.out);have KE:=qaa (KD.out.trans KA.out);clear KA P8 Q8 KD D8 L7 ML;generalize wc=wA at *;have RO:=qaa DA.out.lt;have HI:=qaa (qok (f:=f) Bp.out (fun he=>⟨(by
     rcases LA.out with⟨_,h,_⟩|⟨h,_⟩
     ·exact h
     ·exact absurd he h),by have:=HF.out;omega⟩) DA.out)
    go_upto_region 18 with fail
    go_wp2_with (fail);refine HI.out.mono ?_;rintro e' wB ⟨v,d,iB,eB,qB,rfl,⟨k,nm,tx,a3,n3,c3,a4,n4,c4,a5,n5,c5,a6,n6,c6,p,rfl⟩,dB,kB,hB⟩;have DB:=qaa dB;have HJ:Hid (∃cc,Lv X (fun n=>(qak Ts 7 [59] n).bind fun _ o=>.ok ⟨kk,u.t,cc,z.p⟩ o) iB eB qB∧(eB=0→eA=0∧∃vs bs,(.agg #[.int .i64 k,.string nm,.string tx,.slice a3 n3 c3,.slice a4 n4 c4,.slice a5 n5 c5,.slice a6 n6 c6,.int .i64 p]:Value)=.agg vs.toArray∧qaj wB wA.heap.size cc vs bs∧bs.Nodup)):=by
     rcases hB with⟨h0,h1,h2,c,vs,bs,h3,h4,h5,h6,h7⟩|⟨h1,h2,h3⟩
     ·refine⟨c,.inl ⟨h1,h2,?_⟩,fun _=>⟨h0,vs,bs,h3,h5,h6⟩⟩
      rcases LA.out with⟨_,_,h⟩|⟨h,_⟩
      ·rw[h];show(qaf Ts f 0 iA).bind _=_;rw[h7];rfl
      ·exact absurd h0 h
     ·refine⟨.mk 0 [] [] [] [] [] [] 0,.inr ⟨h1,?_⟩,fun h=>absurd h h1⟩
      rcases LA.out with⟨h0,_,h⟩|⟨h0,h⟩
      ·rw[h];show(qaf Ts f 0 iA).bind _=_;rw[h2 h0];rfl
      ·obtain⟨g1,g2⟩:=h3 h0
       rw[h,g1,g2]
    obtain⟨cc,hj1,hj2⟩:=HJ.out;have LB:=qaa hj1;have HJ2:=qaa hj2;have PB:=qaa ((kB.block P (Yd PA.out) nP).trans PA.out);have QB:=qaa ((kB.block Q (Yd QA.out) nQ).trans QA.out);have KF:=qaa (KE.out.trans kB);have Jg:Hid (P<wA.heap.size):=Yd PA.out;clear HJ hj1 hj2 dB kB hB HI DA PA QA KE LA;obtain⟨⟨_,p0⟩,f0,⟨_,p1⟩,f1,⟨_,p2⟩,f2,⟨_,p3⟩,f3,⟨_,p4⟩,f4,⟨_,p5⟩,f5,⟨_,p6⟩,f6,⟨_,p7⟩,f7,Be,Bf⟩:=qre PB.out (.int .i64 k) (.string nm) (.string tx) (.slice a3 n3 c3) (.slice a4 n4 c4) (.slice a5 n5 c5) (.slice a6 n6 c6) (.int .i64 p);have PC:=qaa Be;have KG:=qaa Bf;clear Be Bf;go_upto_region 19 with fail
    clear p0 f0 p1 f1 p2 f2 p3 f3 p4 f4 p5 f5 p6 f6 p7 f7;generalize ((((((((wB.setCell ⟨P,2,none⟩ (.int .i64 k)).setCell ⟨P,3,none⟩ (.string nm)).setCell ⟨P,4,none⟩ (.string tx)).setCell ⟨P,5,none⟩ (.slice a3 n3 c3)).setCell ⟨P,6,none⟩ (.slice a4 n4 c4)).setCell ⟨P,7,none⟩ (.slice a5 n5 c5)).setCell ⟨P,8,none⟩ (.slice a6 n6 c6)).setCell ⟨P,9,none⟩ (.int .i64 p))=wC at *;have QC:=qaa ((KG.out.block Q (Yd QB.out) hl2.1).trans QB.out);have DC:=qaa (DB.out.kept KG.out hl2.2.1 hl2.2.2);have KH:Hid (Kept (fun k=>k=rp) w wC):=KF.out.fin KG.out (by have:=Bq.out;have:=Bi.out;omega);have HT:=qaa (qa8 (fun l hl=>qa4 Bp.out rfl hl) DC.out LB.out);go_upto_region 20 with(go_at_call 57;refine HT.out.mono ?_;rintro e' wD ⟨rfl,iD,eD,qD,dD,lD,hD,kD⟩;have DD:=qaa dD;have LD:=qaa lD;have HD:=qaa hD;have KD:=qaa kD;clear dD lD hD kD)
    have PD:=qaa ((KD.out.block P (Yd PC.out) nP).trans PC.out);have QD:=qaa ((KD.out.block Q (Yd QC.out) nQ).trans QC.out);have KI:=qaa (KH.out.trans KD.out);clear HT DC QC PC KH LB PB QB DB KF;obtain⟨q0,q1,q2,q3,q4,q5,q6,q7,q8,q9,q10⟩:=qic PD.out;obtain⟨⟨_,p0⟩,f0,⟨_,p1⟩,f1,⟨_,p2⟩,f2,⟨_,p3⟩,f3,⟨_,p4⟩,f4,⟨_,p5⟩,f5,⟨_,p6⟩,f6,⟨_,p7⟩,f7,⟨_,p8⟩,f8,⟨_,p9⟩,f9,⟨_,p10⟩,f10,Be,Bf⟩:=qtu QD.out (.int .i64 (kk:Nat)) (.string ⟨u.t.toArray⟩) (.int .i64 k) (.string nm) (.string tx) (.slice a3 n3 c3) (.slice a4 n4 c4) (.slice a5 n5 c5) (.slice a6 n6 c6) (.int .i64 p) (.int .i64 z.p);have Bg:=qaa Be;have KQ:=qaa Bf;clear Be Bf;go_wp2;clear q0 q1 q2 q3 q4 q5 q6 q7 q8 q9 q10;clear p0 f0 p1 f1 p2 f2 p3 f3 p4 f4 p5 f5 p6 f6 p7 f7 p8 f8 p9 f9 p10 f10;generalize (((((((((((wD.setCell ⟨Q,0,none⟩ (.int .i64 (kk:Nat))).setCell ⟨Q,1,none⟩ (.string ⟨u.t.toArray⟩)).setCell ⟨Q,2,none⟩ (.int .i64 k)).setCell ⟨Q,3,none⟩ (.string nm)).setCell ⟨Q,4,none⟩ (.string tx)).setCell ⟨Q,5,none⟩ (.slice a3 n3 c3)).setCell ⟨Q,6,none⟩ (.slice a4 n4 c4)).setCell ⟨Q,7,none⟩ (.slice a5 n5 c5)).setCell ⟨Q,8,none⟩ (.slice a6 n6 c6)).setCell ⟨Q,9,none⟩ (.int .i64 p)).setCell ⟨Q,10,none⟩ (.int .i64 z.p))=w9 at *;obtain⟨q0,q1,q2,q3,q4,q5,q6,q7,q8,q9,q10⟩:=qic Bg.out;refine Yg (by simp[results,Tryz.results32,go_sem,q0,q1,q2,q3,q4,q5,q6,q7,q8,q9,q10];try rfl) rfl ?_;have hrq:¬rp=Q:=by have:=Bc.out;omega
    have Bv:¬g=Q:=by have:=Bc.out;omega
    refine⟨_,iD,eD,qD,rfl,⟨_,_,_,_,_,_,_,_,_,_,_,_,_,_,_,_,_,_,_,rfl⟩,DD.out.kept KQ.out hrq Bv,KI.out.fin KQ.out (by have:=Bi.out;omega),fun he=>?_,fun he=>?_⟩
    ·rcases LD.out with⟨_,h2,h3⟩|⟨h,_⟩
     ·obtain⟨_,vs,bs,g1,g2,g3⟩:=HJ2.out (HD.out he).1
      have hvs:vs=[.int .i64 k,.string nm,.string tx,.slice a3 n3 c3,.slice a4 n4 c4,.slice a5 n5 c5,.slice a6 n6 c6,.int .i64 p]:=by
       have:=congrArg (fun v=>match v with|Value.agg a=>a.toList|_=>[]) g1;simpa using this.symm
      subst hvs;have he0:e=0:=by
       by_cases h0:e=0
       ·exact h0
       ·rw[Dx.out,if_neg h0] at h3
        cases h3
      refine⟨he0,h2,⟨kk,u.t,cc,z.p⟩,_,_,rfl,((g2.frame KG.out (fun j hj=>?_) Yi).frame KD.out (fun j hj=>?_) Yi).frame KQ.out (fun j hj=>?_) ?_,g3,?_⟩
      ·rw[hj];exact Jg.out
      ·have:=Bc.out
       have:=Bq.out;have:=Jg.out;rw[hj];omega
      ·have:=Bq.out
       have:=Jg.out;rw[hj];omega
      ·have:=Bq.out
       have:=Jg.out;have:=Bi.out;omega
      ·rw[Dx.out,if_pos he0] at h3
       exact h3
     ·exact absurd he h
    ·have hXb:X=.bad eD qD:=by
      rcases LD.out with⟨h,_⟩|⟨_,h⟩
      ·exact absurd h he
      ·exact h
     refine⟨fun h0=>by rw[Dx.out,if_pos h0] at hXb;exact hXb,fun h0=>?_⟩;rw[Dx.out,if_neg h0] at hXb;cases hXb;exact⟨rfl,rfl⟩
theorem qgu (r:Int) (w:World):Calls Tryz.prog 78 #[.int .u8 r] w fun e w'=>e=.returned (.bool (smB r))∧w'=w:=by
 by_cases h1:97≤r<;>by_cases h2:r≤122
 all_goals
  go_enter Tryz.func78,Tryz.ntmps78;go_wp2;go_ret;exact⟨by simp[smB,h1,h2],rfl⟩
theorem qgv (r:Int) (w:World):Calls Tryz.prog 79 #[.int .u8 r] w fun e w'=>e=.returned (.bool (grB r))∧w'=w:=by
 by_cases h1:65≤r<;>by_cases h2:r≤90
 all_goals
  go_enter Tryz.func79,Tryz.ntmps79;go_wp2;go_ret;exact⟨by simp[grB,h1,h2],rfl⟩
theorem qe1 (r:Int) (w:World):Calls Tryz.prog 80 #[.int .u8 r] w fun e w'=>e=.returned (.bool (dgB r))∧w'=w:=by
 by_cases h1:48≤r<;>by_cases h2:r≤57
 all_goals
  go_enter Tryz.func80,Tryz.ntmps80;go_wp2;go_ret;exact⟨by simp[dgB,h1,h2],rfl⟩
theorem qr1 (r:Int):goB 2 r=(smB r||dgB r||decide (r=95)||decide (r=45)):=by unfold goB;rw[if_pos rfl]
theorem qom (r:Int):goB 3 r=grB r:=by unfold goB;rw[if_neg (by decide),if_pos rfl]
theorem qqj (r:Int):goB 4 r=(dgB r||decide (r=46)||decide (r=47)):=by unfold goB;rw[if_neg (by decide),if_neg (by decide)]
theorem ql6 (k r:Int) (hk:k=1∨k=2∨k=3) (w:World):Calls Tryz.prog 120 #[.int .i64 k,.int .u8 r] w fun e w'=>e=.returned (.bool (goB (k+1) r))∧w'=w:=by
 have H1:=qaa (fun W=>qgu r W);have H2:=qaa (fun W=>qe1 r W);have H3:=qaa (fun W=>qgv r W);rcases hk with rfl|rfl|rfl
 ·rw[show(1:Int)+1=2 from rfl,qr1]
  generalize smB r=b1 at *;generalize dgB r=b2 at *;generalize grB r=b3 at *;have kk:r=95∨r=45∨(¬r=95∧¬r=45):=by omega
  cases b1<;>cases b2<;>rcases kk with rfl|rfl|⟨h1,h2⟩
  all_goals
   go_enter Tryz.func120,Tryz.ntmps120;go_wp2_with (first|(go_at_call 78;refine(H1.out _).mono ?_;rintro e wz ⟨rfl,Ba⟩;have Ba:=Ba.symm;subst Ba)|(go_at_call 80;refine(H2.out _).mono ?_;rintro e wz ⟨rfl,Ba⟩;have Ba:=Ba.symm;subst Ba)|(go_at_call 79;refine(H3.out _).mono ?_;rintro e wz ⟨rfl,Ba⟩;have Ba:=Ba.symm;subst Ba));go_ret;exact⟨by simp_all,rfl⟩
 ·rw[show(2:Int)+1=3 from rfl,qom]
  generalize smB r=b1 at *;generalize dgB r=b2 at *;generalize grB r=b3 at *;go_enter Tryz.func120,Tryz.ntmps120;go_wp2_with (first|(go_at_call 78;refine(H1.out _).mono ?_;rintro e wz ⟨rfl,Ba⟩;have Ba:=Ba.symm;subst Ba)|(go_at_call 80;refine(H2.out _).mono ?_;rintro e wz ⟨rfl,Ba⟩;have Ba:=Ba.symm;subst Ba)|(go_at_call 79;refine(H3.out _).mono ?_;rintro e wz ⟨rfl,Ba⟩;have Ba:=Ba.symm;subst Ba));go_ret;exact⟨rfl,rfl⟩
 ·rw[show(3:Int)+1=4 from rfl,qqj]
  generalize smB r=b1 at *;generalize dgB r=b2 at *;generalize grB r=b3 at *;have kk:r=46∨r=47∨(¬r=46∧¬r=47):=by omega
  cases b2<;>rcases kk with rfl|rfl|⟨h1,h2⟩
  all_goals
   go_enter Tryz.func120,Tryz.ntmps120;go_wp2_with (first|(go_at_call 78;refine(H1.out _).mono ?_;rintro e wz ⟨rfl,Ba⟩;have Ba:=Ba.symm;subst Ba)|(go_at_call 80;refine(H2.out _).mono ?_;rintro e wz ⟨rfl,Ba⟩;have Ba:=Ba.symm;subst Ba)|(go_at_call 79;refine(H3.out _).mono ?_;rintro e wz ⟨rfl,Ba⟩;have Ba:=Ba.symm;subst Ba));go_ret;exact⟨by simp_all,rfl⟩
def qqk (k:Int) (s:By) (i j:Nat):Prop:=i≤j∧j≤s.length∧(∀q (hq:q<s.length),i≤q→q<j→goB k (bI s[q])=true)∧∀hj:j<s.length,goB k (bI s[j])=false
theorem qr2 (k:Int) (hk:k=1∨k=2∨k=3) (s:By) (i:Nat) (hi:i≤s.length) (hs:s.length≤140737488351232) (w:World):
 Calls Tryz.prog 81 #[.int .i64 k,.string ⟨s.toArray⟩,.int .i64 (i:Nat)] w fun e w'=>(∃j:Nat,e=.returned (.int .i64 (j:Nat))∧qqk (k+1) s i j)∧w'=w:=by
 have hsz:=qa5 s;go_enter Tryz.func81,Tryz.ntmps81;go_wp2;go_loopg [2] (s.length+1) (fun g x wr=>∃j:Nat,x=.int .i64 (j:Nat)∧i≤j∧j≤s.length∧Hid (∀q (hq:q<s.length),i≤q→q<j→goB (k+1) (bI s[q])=true)∧wr=w∧s.length-j<g)
 case atStart=>exact⟨i,rfl,Nat.le_refl _,hi,fun q hq h1 h2=>by omega,rfl,by omega⟩
 case round=>
  obtain⟨j,rfl,hj0,hj1,HR,hw,hg⟩:=hrel;have HG:=qaa hg;subst hw;clear hg;by_cases hj:j<s.length
  ·have hj':(j:Int)<(s.length:Int):=by omega
   have HW:=qaa (ql6 k (bI s[j]) hk wr);have HR2:Hid (goB (k+1) (bI s[j])=true→∀q (hq:q<s.length),i≤q→q<j+1→goB (k+1) (bI s[q])=true):=fun h q hq h1 h2=>by
    by_cases h3:q<j
    ·exact HR.out q hq h1 h3
    ·obtain rfl:q=j:=by omega
     exact h
   have Mo:Hid (goB (k+1) (bI s[j])=false→qqk (k+1) s i j):=fun h=>⟨hj0,hj1,HR.out,fun _=>h⟩
   obtain⟨y,hy⟩:∃y,s[j]=y:=⟨_,rfl⟩;have hgt:∀hk,(⟨s.toArray⟩:ByteArray)[j]'hk=y:=fun _=>hy
   rw[hy] at HW HR2 Mo;unfold bI at HW;cases hgo:goB (k+1) (bI y) with
   |true=>
    rw[show goB (k+1) (y.toNat:Int)=true from hgo] at HW;have HR3:=qaa (HR2.out hgo);have f1:IntKind.i64.wrap ((j:Int)+1)=(j:Int)+1:=by rw[show(j:Int)+1=((j+1:Nat):Int) by simp];simp[IntKind.wrap,IntKind.bits,IntKind.signed];omega
    clear hgo HR HR2 Mo hy;go_wp2_with (go_at_call 120;refine HW.out.mono ?_;rintro e wz ⟨rfl,Ba⟩;have Ba:=Ba.symm;subst Ba);go_roundg (s.length-(j+1)+1)
    case measure=>have:=HG.out;omega
    case rel=>exact⟨j+1,by first|rfl|go_num|(congr 1;omega),by omega,by omega,HR3,rfl,by omega⟩
   |false=>
    rw[show goB (k+1) (y.toNat:Int)=false from hgo] at HW;have HE2:=qaa (Mo.out hgo);clear hgo HR HR2 Mo hy;go_wp2_with (go_at_call 120;refine HW.out.mono ?_;rintro e wz ⟨rfl,Ba⟩;have Ba:=Ba.symm;subst Ba);go_ret;exact⟨⟨j,rfl,HE2.out⟩,rfl⟩
  ·obtain rfl:j=s.length:=by omega
   have hj':¬(s.length:Int)<(s.length:Int):=by omega
   have HE2:Hid (qqk (k+1) s i s.length):=⟨hj0,Nat.le_refl _,HR.out,fun h=>absurd h (by omega)⟩;go_wp2;go_ret;exact⟨⟨s.length,rfl,HE2.out⟩,rfl⟩
theorem qjx (W:World) (b:Nat) (h:W.heap[b]? =some (.cells (qbt.map fun t=>Value.string ⟨t.toArray⟩).toArray 9 (0,0))) (i:Nat) (hi:i<16):W.cell? ⟨b,i,none⟩=some (.string ⟨(qbt.getD i []).toArray⟩):=by
 rw[cell_of_row _ _ _ _ _ _ h];have hl:i<qbt.length:=hi;simp[List.getD_eq_getElem?_getD,hl]
theorem qon (w:World):Calls Tryz.prog 121 #[] w fun e w'=>e=.returned (.slice (some ⟨w.heap.size,0,none⟩) 16 16)∧w'=w.alloc (.cells (qbt.map fun t=>Value.string ⟨t.toArray⟩).toArray 9):=by
 go_enter Tryz.func121,Tryz.ntmps121;go_wp2;go_ret;exact⟨rfl,rfl⟩
theorem qjy (s:By) (w:World):Calls Tryz.prog 82 #[.string ⟨s.toArray⟩] w fun e w'=>e=.returned (.bool (wdB s))∧Below w.heap.size w w':=by
 have HW:=qaa (qon w);have HX:Hid (Below w.heap.size w (w.alloc (.cells (qbt.map fun t=>Value.string ⟨t.toArray⟩).toArray 9))):=al (Below.refl _ _) _;have HB:=qaa (heap_alloc_new w (.cells (qbt.map fun t=>Value.string ⟨t.toArray⟩).toArray 9));go_enter Tryz.func82,Tryz.ntmps82;go_wp2_with (go_at_call 121;refine HW.out.mono ?_;rintro e w2 ⟨rfl,hw2⟩;rw[←hw2] at HX HB;clear hw2);clear HW;go_loopg [4] 17 (fun g x wr=>∃i:Nat,x=.int .i64 (i:Nat)∧i≤16∧Hid (∀j,j<i→¬qbt.getD j []=s)∧wr=w2∧16-i<g)
 case atStart=>exact⟨0,rfl,by omega,fun j hj=>by omega,rfl,by omega⟩
 case round=>
  obtain⟨i,rfl,hi1,HN,hw,hg⟩:=hrel;have HG:=qaa hg;subst hw;clear hg;by_cases hi:i<16
  ·have hi':(i:Int)<16:=by omega
   have hc:=qjx wr w.heap.size HB.out i hi;have hbl:=lt_of_block HB.out;have Jh:Hid (¬qbt.getD i []=s→∀j,j<i+1→¬qbt.getD j []=s):=fun h j hj=>by
    by_cases h3:j<i
    ·exact HN.out j h3
    ·obtain rfl:j=i:=by omega
     exact h
   have HY:Hid (qbt.getD i []=s→wdB s=true):=fun h=>by
    have hl:i<qbt.length:=hi;rw[List.getD_eq_getElem?_getD,List.getElem?_eq_getElem hl,Option.getD_some] at h;unfold wdB;rw[←h];simp
   generalize qbt.getD i []=t at *;by_cases ht:t=s
   ·subst ht
    have MM:=qaa (HY.out rfl);clear Jh HY HN;go_wp2;go_ret;exact⟨by rw[MM.out];rfl,HX.out⟩
   ·have ht':(t==s)=false:=by simp[ht]
    have Pv:=qaa (Jh.out ht);have f1:IntKind.i64.wrap ((i:Int)+1)=(i:Int)+1:=by rw[show(i:Int)+1=((i+1:Nat):Int) by simp];simp[IntKind.wrap,IntKind.bits,IntKind.signed];omega
    clear Jh HY HN;go_wp2;go_roundg (16-(i+1)+1)
    case measure=>have:=HG.out;omega
    case rel=>exact⟨i+1,by first|rfl|go_num|(congr 1;omega),by omega,Pv,rfl,by omega⟩
  ·obtain rfl:i=16:=by omega
   have MM:Hid (wdB s=false):=by
    unfold Hid wdB;rw[←Bool.not_eq_true];intro h;have hm:s∈qbt:=by simpa using h
    obtain⟨j,hj,e⟩:=List.getElem_of_mem hm;refine HN.out j hj ?_;rw[List.getD_eq_getElem?_getD,List.getElem?_eq_getElem hj,Option.getD_some];exact e
   go_wp2;go_ret;exact⟨by rw[MM.out];rfl,HX.out⟩
structure RwB (w0 w:World) (v:Value) (l:By):Prop where
 own:w.ownsRow w0.heap.size 5 1 v l.length (Lib.byteCells l)
 bel:Below w0.heap.size w0 w
theorem ql7 (w:World) (g cap:Nat) (l:By) (base:Nat) (h:w.ownsRow base 5 1 (.slice (some ⟨g,0,none⟩) l.length cap) l.length (Lib.byteCells l)):(convert 64 9 (.slice (some ⟨g,0,none⟩) l.length cap)).run Tryz.prog w=.ok (.string ⟨l.toArray⟩) w:=by
 have:=run_convert_bytes_arg (P:=Tryz.prog) w 64 5 Tryz.underlying64 Tryz.underlying5 g 0 l.length cap (l.map fun b:UInt8=>(b.toNat:Int)) (by simp) (fun i hi=>by
  have hi2:i<l.length:=by simpa using hi
  have hc:=h.cells (g:=g) rfl i (.int .u8 (l[i].toNat:Int)) (by simp[Lib.byteCells,hi2]);rw[show(⟨g,0,none⟩:Addr).add i=⟨g,0+i,none⟩ by unfold Addr.add;split<;>simp_all] at hc;rw[hc];simp[List.getD_eq_getElem?_getD,hi2]) 9 Tryz.underlying9
 rw[this];have HE:strOfNums (l.map fun b:UInt8=>(b.toNat:Int))=⟨l.toArray⟩:=by
  have e:(l.map fun b:UInt8=>(b.toNat:Int)).map (fun n:Int=>UInt8.ofNat n.toNat)=l:=by
   rw[List.map_map];exact(List.map_congr_left (fun b _=>by simp)).trans (List.map_id l)
  unfold strOfNums;rw[e]
 rw[HE]
theorem RwB.nil (w0 w:World) (x:Below w0.heap.size w0 w):RwB w0 w (.slice none 0 0) []:=⟨World.ownsRow_nil _ _ _ _,x⟩
theorem RwB.appL {w0 w w5 w':World} {v v':Value} {l u:By} (h:RwB w0 w v l) (x:Below w.heap.size w w5) (h1:w'.ownsRow w0.heap.size 5 1 v' (l.length+u.length) (Lib.byteCells l++Lib.byteCells u)) (h2:qfh w5 w' v v'):RwB w0 w' v' (l++u):=by
 refine⟨by have e:Lib.byteCells (l++u)=Lib.byteCells l++Lib.byteCells u:=(by simp[Lib.byteCells]);rw[e,List.length_append];exact h1,?_⟩;rcases h2 with⟨g,g1,g2,g3⟩|⟨g1,g2⟩
 ·have hg:=(World.ownsRow.lt h.own g g1).1
  exact(bt h.bel x Yi).trans ((qae g3).below (bt h.bel x Yi).size (fun i hi=>by have:g=i:=(by simpa using hi);omega))
 ·exact bt (bt h.bel x Yi) (qca g1) Yi
theorem RwB.conv {w0 w:World} {v:Value} {l:By} (h:RwB w0 w v l):(convert 64 9 v).run Tryz.prog w=.ok (.string ⟨l.toArray⟩) w:=by
 rcases h.own.2 with⟨rfl,e⟩|⟨g,cap,cur,rfl,_⟩
 ·have:l=[]:=List.eq_nil_of_length_eq_zero e
  subst this;exact run_convert_bytes_nil w 64 5 Tryz.underlying64 Tryz.underlying5 0 0 9 Tryz.underlying9
 ·exact ql7 w g cap l _ h.own
end Go.Proofs.YtlmhofjiobmodaaGreatDoor

