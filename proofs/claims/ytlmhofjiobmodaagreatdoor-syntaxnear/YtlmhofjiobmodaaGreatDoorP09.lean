/-
  The reader's list by its contract, whatever a part's first token is given to. Condition: that keeps its own contract.
-/
import Derived.Test.YtlmhofjiobmodaaGreatDoorP08
set_option maxRecDepth 100000
set_option maxHeartbeats 16000000
namespace Go.Proofs.YtlmhofjiobmodaaGreatDoor
open Go.RowKit Go.Lib
def szC (c:CT):Nat:=c.pre.length+c.sp.length+c.ns.length
theorem qmy {Ts:List Tk} {kind:Int} {c c':CT} {t:Tk} {j j':Nat} (h:qhc Ts kind c t j=.ok c' j'):szC c'=szC c+1:=by
 unfold qhc qa9 at h;split at h
 ·cases h;simp[szC,CT.pre,CT.sp,CT.ns];omega
 ·split at h
  ·split at h
   ·split at h
    ·simp only[PR.bind] at h;cases h;simp[szC,CT.pre,CT.sp,CT.ns];omega
    ·cases h
   ·cases h;simp[szC,CT.pre,CT.sp,CT.ns];omega
  ·cases h;simp[szC,CT.pre,CT.sp,CT.ns];omega
theorem qa1.badI {base cp rbase rp g cap:Nat} {Ts:List Tk} {w w':World} {x:PR CT} {e:Ending} {e0 p:Int} (hx:x=.bad e0 p) (he:e=pan e0 p) (h:LfK base rp w w'):qa1 base cp rbase rp g cap Ts w x e w':=by
 subst hx;exact⟨he,h⟩
theorem qa1.okI {base cp rbase rp g cap:Nat} {Ts:List Tk} {w w':World} {x:PR CT} {e:Ending} {c:CT} {j:Nat} (hx:x=.ok c j) (he:e=.returned (.tuple #[])) (h1:∃v3 v4 v5,TcA w' base cp c v3 v4 v5) (h2:RdA w' rbase rp g cap Ts j) (h:LfK base rp w w'):qa1 base cp rbase rp g cap Ts w x e w':=by
 subst hx;exact⟨he,h1,h2,h⟩
theorem qhd {w:World} {base cp rbase rp g cap:Nat} {Ts:List Tk} {kind:Int} {cl:Nat} {caps:List Value} {fv:Value} {f i:Nat} {c:CT} (RJ:fv=.func (.func cl) #[] caps.toArray) (he:∀args w,(callFunc cl args).run Tryz.prog w=.ok (.enter cl args) w)
 (I:World→Prop) (hI:∀a b,LfK base rp a b→I a→I b)
 (hc:∀(W:World) (c:CT) (v3 v4 v5:Value) (t:Tk) (j:Nat),TcA W base cp c v3 v4 v5→RdA W rbase rp g cap Ts j→I W→szC c≤64→Calls Tryz.prog cl ((.agg #[.int .i64 t.k,.string ⟨t.t.toArray⟩,.int .i64 t.n,.int .i64 t.a,.int .i64 t.b,.int .i64 t.p])::caps).toArray W (qa1 base cp rbase rp g cap Ts W (qhc Ts kind c t j)))
 (h8:kind≠8) (hT:∃v3 v4 v5,TcA w base cp c v3 v4 v5) (hR:RdA w rbase rp g cap Ts i) (h0:szC c=0) (hI0:I w) (hne:qbp Ts f kind c i≠.out):
 Calls Tryz.prog 177 #[.pointer (some ⟨rp,0,none⟩),.int .i64 kind,fv] w (qa1 base cp rbase rp g cap Ts w (qbp Ts f kind c i)):=by
 subst RJ;obtain⟨x,hx⟩:∃x,x=qbp Ts f kind c i:=⟨_,rfl⟩;rw[←hx];rw[←hx] at hne;have HX:=qaa hx;have Gb:=qaa hne;have HC:=qaa hc;have HI:=qaa hI;have H8:=qaa h8;have HT:=qaa hT;have HR:=qaa hR;have HZ:=qaa h0;have I0:=qaa hI0;clear hx hne hc hI h8 hT hR h0 hI0;by_cases h1:isT Ts 1 wIn i=true
 ·have HA:=qaa (qj8 HR.out h1)
  have hwn:(⟨wIn.toArray⟩:ByteArray)=⟨#[105,110]⟩:=rfl;rw[hwn] at HA;have H1:=qaa h1;clear h1 hwn;go_enter Tryz.func177,Tryz.ntmps177;go_upto_region 1 with(go_at_call 76;refine HA.out.mono ?_;rintro e w1 ⟨rfl,r1,k1⟩;have R1:=qaa r1;have K1:=qaa k1;clear r1 k1)
  have L1:Hid (LfK base rp w w1):=LfK.of_rp K1.out;have T1:Hid (∃v3 v4 v5,TcA w1 base cp c v3 v4 v5):=by
   obtain⟨v3,v4,v5,h⟩:=HT.out;exact⟨v3,v4,v5,h.rp K1.out HR.out.blk⟩
  clear HA K1 HT;by_cases h2:isT Ts 7 [123] (i+1)=true
  ·have HA:=qaa (qcu R1.out h2)
   have H2:=qaa h2;clear h2;go_upto_region 2 with(go_at_call 75;refine HA.out.mono ?_;rintro e w2 ⟨rfl,r2,k2⟩;have R2:=qaa r2;have K2:=qaa k2;clear r2 k2)
   have L2:Hid (LfK base rp w w2):=L1.out.trans (LfK.of_rp K2.out);have T2:Hid (∃v3 v4 v5,TcA w2 base cp c v3 v4 v5):=by
    obtain⟨v3,v4,v5,h⟩:=T1.out;exact⟨v3,v4,v5,h.rp K2.out R1.out.blk⟩
   clear HA K2 T1 L1 R1;by_cases h3:(tok Ts (i+1+1)).k=kind
   ·have HA:=qaa (qbk R2.out h3 H8.out)
    unfold tkV at HA;obtain⟨z,hz⟩:∃z,z=tok Ts (i+1+1):=⟨_,rfl⟩;rw[←hz] at HA;have H3:=qaa h3;have Pg:=qaa hz;clear h3 hz;go_wp2_with (go_at_call 74;refine HA.out.mono ?_;rintro e w3 ⟨rfl,r3,k3⟩;have R3:=qaa r3;have K3:=qaa k3;clear r3 k3);have L3:Hid (LfK base rp w w3):=L2.out.trans (LfK.of_rp K3.out);have T3:Hid (∃v3 v4 v5,TcA w3 base cp c v3 v4 v5):=by
     obtain⟨v3,v4,v5,h⟩:=T2.out;exact⟨v3,v4,v5,h.rp K3.out R2.out.blk⟩
    have BU:Hid (Calls Tryz.prog cl ((.agg #[.int .i64 z.k,.string ⟨z.t.toArray⟩,.int .i64 z.n,.int .i64 z.a,.int .i64 z.b,.int .i64 z.p])::caps).toArray w3 (qa1 base cp rbase rp g cap Ts w3 (qhc Ts kind c z (i+1+1+1)))):=by
     obtain⟨v3,v4,v5,h⟩:=T3.out;exact HC.out w3 c v3 v4 v5 z _ h R3.out (HI.out _ _ L3.out I0.out) (by have:=HZ.out;omega)
    clear HA K3 T2 L2 R2;have Du:Hid (x=(qhc Ts kind c z (i+1+1+1)).bind fun c' m=>qba Ts kind f 1 c' m):=by
     unfold Hid;rw[HX.out,Pg.out];unfold qbp qak;rw[if_pos H1.out];simp only[PR.bind];rw[if_pos H2.out];dsimp only;rw[qcf];unfold qa9;rw[if_pos H3.out];rfl
    clear HX H1 H2 H3 Pg;refine BU.out.mono ?_;intro e w4 hp;cases Bh:qhc Ts kind c z (i+1+1+1) with
    |out=>rw[Bh] at hp;exact absurd hp (fun h=>h)
    |bad e0 p=>
     rw[Bh] at hp Du;obtain⟨he',l4⟩:=hp;unfold pan at he';subst he';exact⟨rfl,qa1.badI Du.out rfl (L3.out.trans l4)⟩
    |ok c1 j1=>
     rw[Bh] at hp Du;have Ph:Hid (szC c1≤1):=by have:=qmy Bh;have:=HZ.out;unfold Hid;omega
     obtain⟨rfl,t4,r4,l4⟩:=hp;have T4:=qaa t4;have R4:=qaa r4;have L4:Hid (LfK base rp w w4):=L3.out.trans l4;have HX:Hid (x=qba Ts kind f 1 c1 j1):=Du.out;clear Bh t4 r4 l4 Du BU T3 L3 R3 HZ;go_wp2;go_loopg [6] (f+1) (fun gg xx wr=>∃(parts:Nat) (c':CT) (j' f':Nat),xx=.int .i64 (parts:Nat)∧1≤parts∧parts≤32∧Hid (szC c'≤parts)∧Hid (x=qba Ts kind f' parts c' j')∧Hid (∃v3 v4 v5,TcA wr base cp c' v3 v4 v5)∧Hid (RdA wr rbase rp g cap Ts j')∧Hid (LfK base rp w wr)∧f'<gg)
     case atStart=>exact⟨1,c1,j1,f,rfl,by omega,by omega,Ph,HX,T4,R4,L4,by omega⟩
     case round=>
      clear HX T4 R4 L4 Ph HR;obtain⟨parts,c',j',f',rfl,hp1,hp2,SZ,HX,TR,RR,LR,hg⟩:=hrel;cases f' with
      |zero=>exact absurd HX.out Gb.out
      |succ f'=>
       have HG:=qaa hg;clear hg;have HM:Hid (x=if isT Ts 7 [44] j'=true then
        if parts=32∧(tok Ts (j'+1)).k=kind then .bad 92 (tok Ts (j'+1)).p
        else(qb3 Ts kind c' (j'+1)).bind fun c'' j=>qba Ts kind f' (parts+1) c'' j
        else(qak Ts 7 [125] j').bind fun _ j=>.ok c' j):=HX.out
       clear HX;have HS:=qaa (qc0 RR.out [44]);by_cases hcm:isT Ts 7 [44] j'=true
       ·rw[hcm] at HS
        have HN:Hid (j'+1<Ts.length):=RR.out.next (by rw[qb0 hcm];decide);have BM:Hid (x=if parts=32∧(tok Ts (j'+1)).k=kind then .bad 92 (tok Ts (j'+1)).p
         else(qb3 Ts kind c' (j'+1)).bind fun c'' j=>qba Ts kind f' (parts+1) c'' j):=by unfold Hid;rw[HM.out,if_pos hcm]
        clear HM hcm;go_upto_region 6 with(go_at_call 143;refine HS.out.mono ?_;rintro e w5 ⟨rfl,x5⟩;have X5:=qaa x5;clear x5)
        have R5:=qaa (RR.out.below X5.out);have L5:Hid (LfK base rp w w5):=LR.out.trans (LfK.of_below X5.out);have T5:Hid (∃v3 v4 v5,TcA w5 base cp c' v3 v4 v5):=by
         obtain⟨v3,v4,v5,h⟩:=TR.out;exact⟨v3,v4,v5,h.below X5.out⟩
        clear X5 HS TR LR RR;obtain⟨_,c1⟩:=R5.out.two;have f1:=Yf w5 rp 1 _ _ R5.out.blk;have fw:IntKind.i64.wrap ((j':Int)+1)=(j':Int)+1:=by have:=R5.out.few;have:=HN.out;simp[IntKind.wrap,IntKind.bits,IntKind.signed];omega
        go_upto_region 7 with fail
        clear c1 f1 fw;have R6:=qaa (R5.out.step HN.out);have K6:Hid (Kept (fun k=>k=rp) w5 (w5.setCell ⟨rp,1,none⟩ (.int .i64 ((j':Int)+1)))):=Kept.setCell (F:=fun k=>k=rp) (p:=⟨rp,1,none⟩) (Kept.refl _ _) rfl _;have L6:Hid (LfK base rp w (w5.setCell ⟨rp,1,none⟩ (.int .i64 ((j':Int)+1)))):=L5.out.trans (LfK.of_rp K6.out);have T6:Hid (∃v3 v4 v5,TcA (w5.setCell ⟨rp,1,none⟩ (.int .i64 ((j':Int)+1))) base cp c' v3 v4 v5):=by
         obtain⟨v3,v4,v5,h⟩:=T5.out;exact⟨v3,v4,v5,h.rp K6.out R5.out.blk⟩
        clear T5 L5 R5 K6;generalize w5.setCell ⟨rp,1,none⟩ (.int .i64 ((j':Int)+1))=w6 at *;obtain⟨z2,hz2⟩:∃z2,z2=tok Ts (j'+1):=⟨_,rfl⟩;have HZ2:=qaa hz2;rw[←hz2] at BM;have Mc:=qaa (qcd R6.out);unfold tkV at Mc;rw[←hz2] at Mc;have hf:=qtq;by_cases hp:parts=32
        ·subst hp
         by_cases hk:z2.k=kind
         ·have hkk:(z2.k==kind)=true:=by simpa using hk
          have Bt:Hid (x=.bad 92 z2.p):=by unfold Hid;rw[BM.out,if_pos ⟨rfl,hk⟩]
          have E8:=qaa (fun V (y:Below w6.heap.size w6 V)=>qb7 (R6.out.below y) 92);rw[←hz2] at E8;clear hk hz2 BM;go_wp2_with (first
           |(go_at_call 50;refine Mc.out.mono ?_;rintro e w7 ⟨rfl,x7⟩;have X7:=qaa x7;clear x7)
           |(go_at_call 52;refine(E8.out _ X7.out).mono ?_;rintro e w8 ⟨he',x8⟩;unfold pan at he';subst he';have X8:=qaa (bt X7.out x8 Yi);clear x8))
          exact⟨rfl,qa1.badI Bt.out rfl (L6.out.trans (LfK.of_below X8.out))⟩
         ·have hkk:(z2.k==kind)=false:=by simpa using hk
          have Bt:Hid (x=.bad 90 z2.p):=by
           unfold Hid;rw[BM.out,if_neg (fun h=>hk h.2),qcf];unfold qa9;rw[←hz2,if_neg hk];rfl
          have Md:=qaa (fun V (y:Below w6.heap.size w6 V)=>qbr (R6.out.below y) (kind:=kind) (by rw[←hz2];exact hk));rw[←hz2] at Md;clear hk hz2 BM;go_wp2_with (first
           |(go_at_call 50;refine Mc.out.mono ?_;rintro e w7 ⟨rfl,x7⟩;have X7:=qaa x7;clear x7)
           |(go_at_call 74;refine(Md.out _ X7.out).mono ?_;rintro e w8 ⟨he',x8⟩;unfold pan at he';subst he';have X8:=qaa (bt X7.out x8 Yi);clear x8))
          exact⟨rfl,qa1.badI Bt.out rfl (L6.out.trans (LfK.of_below X8.out))⟩
        ·have RY:((parts:Int)==32)=false:=by simp;omega
         have LV:=qaa hp;by_cases hk:z2.k=kind
         ·have Bt:Hid (x=(qhc Ts kind c' z2 (j'+1+1)).bind fun c'' j=>qba Ts kind f' (parts+1) c'' j):=by
           unfold Hid;rw[BM.out,if_neg (fun h=>hp h.1),qcf];unfold qa9;rw[←hz2,if_pos hk];rfl
          have Bz:=qaa (qbk R6.out (kind:=kind) (by rw[←hz2];exact hk) H8.out);unfold tkV at Bz;rw[←hz2] at Bz;clear hk hz2 BM hp;go_wp2_with (go_at_call 74;refine Bz.out.mono ?_;rintro e w7 ⟨rfl,r7,k7⟩;have R7:=qaa r7;have K7:=qaa k7;clear r7 k7);have L7:Hid (LfK base rp w w7):=L6.out.trans (LfK.of_rp K7.out);have BU:Hid (Calls Tryz.prog cl ((.agg #[.int .i64 z2.k,.string ⟨z2.t.toArray⟩,.int .i64 z2.n,.int .i64 z2.a,.int .i64 z2.b,.int .i64 z2.p])::caps).toArray w7 (qa1 base cp rbase rp g cap Ts w7 (qhc Ts kind c' z2 (j'+1+1)))):=by
           obtain⟨v3,v4,v5,h⟩:=T6.out;exact HC.out w7 c' v3 v4 v5 z2 _ (h.rp K7.out R6.out.blk) R7.out (HI.out _ _ L7.out I0.out) (by have:=SZ.out;omega)
          clear Bz K7 T6 L6 R6 Mc;refine BU.out.mono ?_;intro e w8 hp;cases Bh:qhc Ts kind c' z2 (j'+1+1) with
          |out=>rw[Bh] at hp;exact absurd hp (fun h=>h)
          |bad e0 p=>
           rw[Bh] at hp Bt;obtain⟨he',l8⟩:=hp;unfold pan at he';subst he';exact⟨rfl,qa1.badI Bt.out rfl (L7.out.trans l8)⟩
          |ok c2 j2=>
           rw[Bh] at hp Bt;have RL:Hid (szC c2≤parts+1):=by have:=qmy Bh;have:=SZ.out;unfold Hid;omega
           obtain⟨rfl,t8,r8,l8⟩:=hp;have T8:=qaa t8;have R8:=qaa r8;have L8:Hid (LfK base rp w w8):=L7.out.trans l8;have HX:Hid (x=qba Ts kind f' (parts+1) c2 j2):=Bt.out;clear Bh t8 r8 l8 Bt BU L7 R7 SZ;go_wp2;go_roundg (f'+1)
           case measure=>have:=HG.out;omega
           case rel=>exact⟨parts+1,c2,j2,f',by first|rfl|go_num|(congr 1;omega),by omega,by have:=LV.out;omega,RL,HX,T8,R8,L8,by omega⟩
         ·have Bt:Hid (x=.bad 90 z2.p):=by
           unfold Hid;rw[BM.out,if_neg (fun h=>hk h.2),qcf];unfold qa9;rw[←hz2,if_neg hk];rfl
          have Md:=qaa (qbr R6.out (kind:=kind) (by rw[←hz2];exact hk));rw[←hz2] at Md;clear hk hz2 BM hp;go_wp2_with (go_at_call 74;refine Md.out.mono ?_;rintro e w8 ⟨he',x8⟩;unfold pan at he';subst he';have X8:=qaa x8;clear x8);exact⟨rfl,qa1.badI Bt.out rfl (L6.out.trans (LfK.of_below X8.out))⟩
       ·have hcm':isT Ts 7 [44] j'=false:=by simpa using hcm
        rw[hcm'] at HS;have BM:Hid (x=(qak Ts 7 [125] j').bind fun _ j=>.ok c' j):=by unfold Hid;rw[HM.out,if_neg hcm]
        clear HM hcm hcm';go_upto_region 10 with(go_at_call 143;refine HS.out.mono ?_;rintro e w5 ⟨rfl,x5⟩;have X5:=qaa x5;clear x5)
        have R5:=qaa (RR.out.below X5.out);have L5:Hid (LfK base rp w w5):=LR.out.trans (LfK.of_below X5.out);have T5:Hid (∃v3 v4 v5,TcA w5 base cp c' v3 v4 v5):=by
         obtain⟨v3,v4,v5,h⟩:=TR.out;exact⟨v3,v4,v5,h.below X5.out⟩
        clear X5 HS TR LR RR;by_cases hq:isT Ts 7 [125] j'=true
        ·have HA:=qaa (qcu R5.out hq)
         have Bt:Hid (x=.ok c' (j'+1)):=by unfold Hid;rw[BM.out];unfold qak;rw[if_pos hq];rfl
         clear hq BM;go_wp2_with (go_at_call 75;refine HA.out.mono ?_;rintro e w6 ⟨rfl,r6,k6⟩;have R6:=qaa r6;have K6:=qaa k6;clear r6 k6);go_end0;refine qa1.okI Bt.out rfl ?_ R6.out (L5.out.trans (LfK.of_rp K6.out));obtain⟨v3,v4,v5,h⟩:=T5.out;exact⟨v3,v4,v5,h.rp K6.out R5.out.blk⟩
        ·have HA:=qaa (qce R5.out hq)
         have Bt:Hid (x=.bad 90 (tok Ts j').p):=by unfold Hid;rw[BM.out];unfold qak;rw[if_neg hq];rfl
         generalize (tok Ts j').p=zp at *;clear hq BM;go_wp2_with (go_at_call 75;refine HA.out.mono ?_;rintro e w6 ⟨he',x6⟩;unfold pan at he';subst he';have X6:=qaa x6;clear x6);exact⟨rfl,qa1.badI Bt.out rfl (L5.out.trans (LfK.of_below X6.out))⟩
   ·have HA:=qaa (qbr R2.out h3)
    have Bt:Hid (x=.bad 90 (tok Ts (i+1+1)).p):=by
     unfold Hid;rw[HX.out];unfold qbp qak;rw[if_pos H1.out];simp only[PR.bind];rw[if_pos H2.out];dsimp only;rw[qcf];unfold qa9;rw[if_neg h3];rfl
    generalize (tok Ts (i+1+1)).p=zp at *;clear h3 HX;go_wp2_with (go_at_call 74;refine HA.out.mono ?_;rintro e w6 ⟨he',x6⟩;unfold pan at he';subst he';have X6:=qaa x6;clear x6);exact⟨rfl,qa1.badI Bt.out rfl (L2.out.trans (LfK.of_below X6.out))⟩
  ·have HA:=qaa (qce R1.out h2)
   have Bt:Hid (x=.bad 90 (tok Ts (i+1)).p):=by
    unfold Hid;rw[HX.out];unfold qbp qak;rw[if_pos H1.out];simp only[PR.bind];rw[if_neg h2]
   generalize (tok Ts (i+1)).p=zp at *;clear h2 HX;go_wp2_with (go_at_call 75;refine HA.out.mono ?_;rintro e w6 ⟨he',x6⟩;unfold pan at he';subst he';have X6:=qaa x6;clear x6);exact⟨rfl,qa1.badI Bt.out rfl (L1.out.trans (LfK.of_below X6.out))⟩
 ·have HA:=qaa (qh1 HR.out h1)
  have hwn:(⟨wIn.toArray⟩:ByteArray)=⟨#[105,110]⟩:=rfl;rw[hwn] at HA;have Bt:Hid (x=.bad 90 (tok Ts i).p):=by
   unfold Hid;rw[HX.out];unfold qbp qak;rw[if_neg h1];rfl
  generalize (tok Ts i).p=zp at *;clear h1 HX hwn;go_enter Tryz.func177,Tryz.ntmps177;go_wp2_with (go_at_call 76;refine HA.out.mono ?_;rintro e w6 ⟨he',x6⟩;unfold pan at he';subst he';have X6:=qaa x6;clear x6);exact⟨rfl,qa1.badI Bt.out rfl (LfK.of_below X6.out)⟩
theorem qmz:∀(args:Array Value) (w:World),(callFunc 178 args).run Tryz.prog w=.ok (.enter 178 args) w:=fun _ _=>by kernel_rfl
theorem qm0:∀(args:Array Value) (w:World),(callFunc 179 args).run Tryz.prog w=.ok (.enter 179 args) w:=fun _ _=>by kernel_rfl
theorem qm1:∀(args:Array Value) (w:World),(callFunc 181 args).run Tryz.prog w=.ok (.enter 181 args) w:=fun _ _=>by kernel_rfl
theorem qa1.pre {base cp rbase rp g cap:Nat} {Ts:List Tk} {w v w':World} {x:PR CT} {e:Ending} (h:qa1 base cp rbase rp g cap Ts v x e w') (h0:LfK base rp w v):qa1 base cp rbase rp g cap Ts w x e w':=by
 cases x with
 |ok c j=>exact⟨h.1,h.2.1,h.2.2.1,h0.trans h.2.2.2⟩
 |bad e0 p=>exact⟨h.1,h0.trans h.2⟩
 |out=>exact h
theorem qa1.ends {base cp rbase rp g cap:Nat} {Ts:List Tk} {w w':World} {x:PR CT} {e:Ending} (h:qa1 base cp rbase rp g cap Ts w x e w'):e=.returned (.tuple #[])∨∃e0 p,e=pan e0 p:=by
 cases x with
 |ok c j=>exact .inl h.1
 |bad e0 p=>exact .inr ⟨e0,p,h.1⟩
 |out=>exact absurd h (fun h=>h)
theorem qm2 {w:World} {base cp rbase rp g cap:Nat} {Ts:List Tk} {f i:Nat} {c:CT} {v3 v4 v5:Value} (hk:c.k=7) (hT:TcA w base cp c v3 v4 v5) (hR:RdA w rbase rp g cap Ts i) (h0:szC c=0) (hne:qa0 Ts f c i≠.out):Calls Tryz.prog 145 #[.pointer (some ⟨rp,0,none⟩),.pointer (some ⟨cp,0,none⟩)] w (qa1 base cp rbase rp g cap Ts w (qa0 Ts f c i)):=by
 have hx:qa0 Ts f c i=qbp Ts f 5 c i:=by
  unfold qa0;rw[if_pos hk]
 rw[hx] at hne ⊢;have XA:=qaa (show Below w.heap.size w (w.alloc (.cells #[.pointer (some ⟨rp,0,none⟩)] 102)) from al Yj _);obtain⟨W,hW⟩:∃W,W=(w.alloc (.cells #[.pointer (some ⟨rp,0,none⟩)] 102)).alloc (.cells #[.pointer (some ⟨cp,0,none⟩)] 177):=⟨_,rfl⟩;have XW:=qaa (show Below w.heap.size w W by rw[hW];exact al XA.out _);obtain⟨rv,BI⟩:∃rv,rv=w.heap.size:=⟨_,rfl⟩;obtain⟨vp,hvp⟩:∃vp,vp=(w.alloc (.cells #[.pointer (some ⟨rp,0,none⟩)] 102)).heap.size:=⟨_,rfl⟩;have HU:=qaa (show W.heap[rv]? =some (.cells #[.pointer (some ⟨rp,0,none⟩)] 102 (0,0)) by
  rw[hW,BI];exact(heap_alloc_old _ _ (by simp)).trans (Yh w _))
 have HV:=qaa (show W.heap[vp]? =some (.cells #[.pointer (some ⟨cp,0,none⟩)] 177 (0,0)) by
  rw[hW,hvp];exact Yh _ _)
 have Dt:vp=w.heap.size+1:=by rw[hvp];simp
 have NE:Hid (vp≠rp∧rv≠rp):=by
  have h1:=Yd hR.blk;exact⟨by omega,by omega⟩
 have R0:=qaa (hR.below XW.out);have L0:Hid (LfK base rp w W):=LfK.of_below XW.out;have T0:=qaa (hT.below XW.out);have HK:=qaa hk;clear hR hT XA hk;have c0:W.cell? ⟨vp,0,none⟩=some (.pointer (some ⟨cp,0,none⟩)):=by rw[Ye _ _ _ _ _ _ HV.out];rfl
 have c1:W.cell? ⟨cp,0,none⟩=some (.int .i64 7):=by rw[Ye _ _ _ _ _ _ T0.out.blk,←HK.out];rfl
 have c2:W.cell? ⟨rv,0,none⟩=some (.pointer (some ⟨rp,0,none⟩)):=by rw[Ye _ _ _ _ _ _ HU.out];rfl
 go_enter Tryz.func145,Tryz.ntmps145;go_upto_region 1 with fail
 rw[←Dt,←hW,←BI];clear hW BI hvp Dt XW;have HL:Hid (Calls Tryz.prog 177 #[.pointer (some ⟨rp,0,none⟩),.int .i64 5,.func (.func 178) #[] #[.pointer (some ⟨vp,0,none⟩)]] W (qa1 base cp rbase rp g cap Ts W (qbp Ts f 5 c i))):=
  qhd (caps:=[.pointer (some ⟨vp,0,none⟩)]) rfl qmz (fun V=>V.heap[vp]? =some (.cells #[.pointer (some ⟨cp,0,none⟩)] 177 (0,0))∧V.heap[rv]? =some (.cells #[.pointer (some ⟨rp,0,none⟩)] 102 (0,0))) (fun a b h1 h2=>⟨h1.keep h2.1 NE.out.1 (by decide),h1.keep h2.2 NE.out.2 (by decide)⟩) (fun V c v3 v4 v5 t j h1 h2 h3 h4=>by
   refine(qo7 t h1 h3.1 (by unfold szC at h4;omega) h2).mono ?_;rintro e w' ⟨q1,⟨v,q2⟩,q3,q4⟩;exact qa1.okI rfl q1 ⟨_,_,_,q2⟩ q3 q4) (by decide) ⟨_,_,_,T0.out⟩ R0.out h0 ⟨HV.out,HU.out⟩ hne
 clear hne h0 T0 R0;generalize qbp Ts f 5 c i=x at *;go_upto_region 3 with fail
 go_wp2_with (fail);refine HL.out.mono ?_;intro e w1 hp;have HP:=qaa (hp.pre L0.out);rcases hp.ends with rfl|⟨e0,p,he⟩
 ·go_wp2
  go_end0;exact HP.out
 ·unfold pan at he
  subst he;exact⟨rfl,HP.out⟩
theorem qm3 {w:World} {base cp rbase rp g cap:Nat} {Ts:List Tk} {f i:Nat} {c:CT} {v3 v4 v5:Value} (hk:c.k=8) (hT:TcA w base cp c v3 v4 v5) (hR:RdA w rbase rp g cap Ts i) (h0:szC c=0) (hne:qa0 Ts f c i≠.out):Calls Tryz.prog 145 #[.pointer (some ⟨rp,0,none⟩),.pointer (some ⟨cp,0,none⟩)] w (qa1 base cp rbase rp g cap Ts w (qa0 Ts f c i)):=by
 have hx:qa0 Ts f c i=qbp Ts f 4 c i:=by
  unfold qa0;rw[if_neg (by rw[hk];decide),if_pos hk]
 rw[hx] at hne ⊢;have XA:=qaa (show Below w.heap.size w (w.alloc (.cells #[.pointer (some ⟨rp,0,none⟩)] 102)) from al Yj _);obtain⟨W,hW⟩:∃W,W=(w.alloc (.cells #[.pointer (some ⟨rp,0,none⟩)] 102)).alloc (.cells #[.pointer (some ⟨cp,0,none⟩)] 177):=⟨_,rfl⟩;have XW:=qaa (show Below w.heap.size w W by rw[hW];exact al XA.out _);obtain⟨rv,BI⟩:∃rv,rv=w.heap.size:=⟨_,rfl⟩;obtain⟨vp,hvp⟩:∃vp,vp=(w.alloc (.cells #[.pointer (some ⟨rp,0,none⟩)] 102)).heap.size:=⟨_,rfl⟩;have HU:=qaa (show W.heap[rv]? =some (.cells #[.pointer (some ⟨rp,0,none⟩)] 102 (0,0)) by
  rw[hW,BI];exact(heap_alloc_old _ _ (by simp)).trans (Yh w _))
 have HV:=qaa (show W.heap[vp]? =some (.cells #[.pointer (some ⟨cp,0,none⟩)] 177 (0,0)) by
  rw[hW,hvp];exact Yh _ _)
 have Dt:vp=w.heap.size+1:=by rw[hvp];simp
 have NE:Hid (vp≠rp∧rv≠rp):=by
  have h1:=Yd hR.blk;exact⟨by omega,by omega⟩
 have R0:=qaa (hR.below XW.out);have L0:Hid (LfK base rp w W):=LfK.of_below XW.out;have T0:=qaa (hT.below XW.out);have HK:=qaa hk;clear hR hT XA hk;have c0:W.cell? ⟨vp,0,none⟩=some (.pointer (some ⟨cp,0,none⟩)):=by rw[Ye _ _ _ _ _ _ HV.out];rfl
 have c1:W.cell? ⟨cp,0,none⟩=some (.int .i64 8):=by rw[Ye _ _ _ _ _ _ T0.out.blk,←HK.out];rfl
 have c2:W.cell? ⟨rv,0,none⟩=some (.pointer (some ⟨rp,0,none⟩)):=by rw[Ye _ _ _ _ _ _ HU.out];rfl
 go_enter Tryz.func145,Tryz.ntmps145;go_upto_region 1 with fail
 rw[←Dt,←hW,←BI];clear hW BI hvp Dt XW;have HL:Hid (Calls Tryz.prog 177 #[.pointer (some ⟨rp,0,none⟩),.int .i64 4,.func (.func 179) #[] #[.pointer (some ⟨vp,0,none⟩),.pointer (some ⟨rv,0,none⟩)]] W (qa1 base cp rbase rp g cap Ts W (qbp Ts f 4 c i))):=
  qhd (caps:=[.pointer (some ⟨vp,0,none⟩),.pointer (some ⟨rv,0,none⟩)]) rfl qm0 (fun V=>V.heap[vp]? =some (.cells #[.pointer (some ⟨cp,0,none⟩)] 177 (0,0))∧V.heap[rv]? =some (.cells #[.pointer (some ⟨rp,0,none⟩)] 102 (0,0))) (fun a b h1 h2=>⟨h1.keep h2.1 NE.out.1 (by decide),h1.keep h2.2 NE.out.2 (by decide)⟩) (fun V c v3 v4 v5 t j h1 h2 h3 h4=>by
   cases hp:PoR Ts t.n j with
   |none=>
    refine(qo9 t hp h1 h3.1 h3.2 (by unfold szC at h4;omega) h2).mono ?_;rintro e w' ⟨q1,q2⟩;exact qa1.badI (qmx hp) q1 q2
   |some mj=>
    obtain⟨m,l⟩:=mj;refine(qq9 t hp h1 h3.1 h3.2 (by unfold szC at h4;omega) h2).mono ?_;rintro e w' ⟨q1,⟨v,q2⟩,q3,q4⟩;exact qa1.okI (qmw hp) q1 ⟨_,_,_,q2⟩ q3 q4) (by decide) ⟨_,_,_,T0.out⟩ R0.out h0 ⟨HV.out,HU.out⟩ hne
 clear hne h0 T0 R0;generalize qbp Ts f 4 c i=x at *;go_upto_region 5 with fail
 go_wp2_with (fail);refine HL.out.mono ?_;intro e w1 hp;have HP:=qaa (hp.pre L0.out);rcases hp.ends with rfl|⟨e0,p,he⟩
 ·go_wp2
  go_end0;exact HP.out
 ·unfold pan at he
  subst he;exact⟨rfl,HP.out⟩
theorem qi5 {w:World} {base cp rbase rp g cap:Nat} {Ts:List Tk} {f i:Nat} {c:CT} {v3 v4 v5:Value} (hk:c.k=9) (hT:TcA w base cp c v3 v4 v5) (hR:RdA w rbase rp g cap Ts i) (h0:szC c=0) (hne:qa0 Ts f c i≠.out):Calls Tryz.prog 145 #[.pointer (some ⟨rp,0,none⟩),.pointer (some ⟨cp,0,none⟩)] w (qa1 base cp rbase rp g cap Ts w (qa0 Ts f c i)):=by
 have hx:qa0 Ts f c i=qbp Ts f 3 c i:=by
  unfold qa0;rw[if_neg (by rw[hk];decide),if_neg (by rw[hk];decide),if_pos hk]
 rw[hx] at hne ⊢;have XA:=qaa (show Below w.heap.size w (w.alloc (.cells #[.pointer (some ⟨rp,0,none⟩)] 102)) from al Yj _);obtain⟨W,hW⟩:∃W,W=(w.alloc (.cells #[.pointer (some ⟨rp,0,none⟩)] 102)).alloc (.cells #[.pointer (some ⟨cp,0,none⟩)] 177):=⟨_,rfl⟩;have XW:=qaa (show Below w.heap.size w W by rw[hW];exact al XA.out _);obtain⟨rv,BI⟩:∃rv,rv=w.heap.size:=⟨_,rfl⟩;obtain⟨vp,hvp⟩:∃vp,vp=(w.alloc (.cells #[.pointer (some ⟨rp,0,none⟩)] 102)).heap.size:=⟨_,rfl⟩;have HU:=qaa (show W.heap[rv]? =some (.cells #[.pointer (some ⟨rp,0,none⟩)] 102 (0,0)) by
  rw[hW,BI];exact(heap_alloc_old _ _ (by simp)).trans (Yh w _))
 have HV:=qaa (show W.heap[vp]? =some (.cells #[.pointer (some ⟨cp,0,none⟩)] 177 (0,0)) by
  rw[hW,hvp];exact Yh _ _)
 have Dt:vp=w.heap.size+1:=by rw[hvp];simp
 have NE:Hid (vp≠rp∧rv≠rp):=by
  have h1:=Yd hR.blk;exact⟨by omega,by omega⟩
 have R0:=qaa (hR.below XW.out);have L0:Hid (LfK base rp w W):=LfK.of_below XW.out;have T0:=qaa (hT.below XW.out);have HK:=qaa hk;clear hR hT XA hk;have c0:W.cell? ⟨vp,0,none⟩=some (.pointer (some ⟨cp,0,none⟩)):=by rw[Ye _ _ _ _ _ _ HV.out];rfl
 have c1:W.cell? ⟨cp,0,none⟩=some (.int .i64 9):=by rw[Ye _ _ _ _ _ _ T0.out.blk,←HK.out];rfl
 have c2:W.cell? ⟨rv,0,none⟩=some (.pointer (some ⟨rp,0,none⟩)):=by rw[Ye _ _ _ _ _ _ HU.out];rfl
 go_enter Tryz.func145,Tryz.ntmps145;go_upto_region 1 with fail
 rw[←Dt,←hW,←BI];clear hW BI hvp Dt XW;have HL:Hid (Calls Tryz.prog 177 #[.pointer (some ⟨rp,0,none⟩),.int .i64 3,.func (.func 181) #[] #[.pointer (some ⟨vp,0,none⟩)]] W (qa1 base cp rbase rp g cap Ts W (qbp Ts f 3 c i))):=
  qhd (caps:=[.pointer (some ⟨vp,0,none⟩)]) rfl qm1 (fun V=>V.heap[vp]? =some (.cells #[.pointer (some ⟨cp,0,none⟩)] 177 (0,0))∧V.heap[rv]? =some (.cells #[.pointer (some ⟨rp,0,none⟩)] 102 (0,0))) (fun a b h1 h2=>⟨h1.keep h2.1 NE.out.1 (by decide),h1.keep h2.2 NE.out.2 (by decide)⟩) (fun V c v3 v4 v5 t j h1 h2 h3 h4=>by
   refine(qo8 t h1 h3.1 (by unfold szC at h4;omega) h2).mono ?_;rintro e w' ⟨q1,⟨v,q2⟩,q3,q4⟩;exact qa1.okI rfl q1 ⟨_,_,_,q2⟩ q3 q4) (by decide) ⟨_,_,_,T0.out⟩ R0.out h0 ⟨HV.out,HU.out⟩ hne
 clear hne h0 T0 R0;generalize qbp Ts f 3 c i=x at *;go_upto_region 7 with fail
 go_wp2_with (fail);refine HL.out.mono ?_;intro e w1 hp;have HP:=qaa (hp.pre L0.out);rcases hp.ends with rfl|⟨e0,p,he⟩
 ·go_wp2
  go_end0;exact HP.out
 ·unfold pan at he
  subst he;exact⟨rfl,HP.out⟩
end Go.Proofs.YtlmhofjiobmodaaGreatDoor

