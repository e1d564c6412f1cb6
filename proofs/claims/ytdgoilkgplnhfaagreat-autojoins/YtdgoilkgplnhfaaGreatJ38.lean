/-
  The document's reached by its contract. Condition: the automaton may be.
-/
import Derived.Test.YtdgoilkgplnhfaaGreatJ37
import Derived.Test.YtdgoilkgplnhfaaGreatJ08
namespace Go.Proofs.YtdgoilkgplnhfaaGreat
open Go.RowKit Go.Lib
theorem qbv.w {bs:By} {NX OU:List Nat} (h:qbv bs NX OU) (hw:NX.length=OU.length*(mxL (ntL bs)+1)):NX.length/OU.length=mxL (ntL bs)+1:=by
 rw[hw];exact Nat.mul_div_cancel_left _ h.n0
set_option maxRecDepth 100000 in
set_option maxHeartbeats 4000000 in
theorem qlz (bs:By) (na oa ca:Option Addr) (nc oc cc W:Nat) (NX OU C:List Nat) (w:World) (hM:qbv bs NX OU) (hW:NX.length/OU.length=W) (hWm:W=mxL (ntL bs)+1) (hC:∀c∈C,∃b,b<256∧(bs.getD b 0).toNat=c) (hCl:C.length≤256) (hnx:NAt w na NX) (hca:NAt w ca C):
 Calls Tryz.prog 37 #[auV bs na NX.length nc oa OU.length oc,.slice ca C.length cc] w fun e w'=>(∃(ao:Option Addr) (cap:Nat) (l:List Nat),e=.returned (.slice ao l.length cap)∧NAt w' ao l∧∃B,RhS (dfA bs NX OU) C B l l.length 0)∧Below w.heap.size w w':=by
 obtain⟨i3,hi3,hz30,hz31,hz32⟩:=info_parts Tryz.info3n;obtain⟨i4,hi4,hz40,hz41,hz42⟩:=info_parts Tryz.info4n;have hn0:=hM.n0;have hn1:=hM.n1;have hbl:=hM.bl;have hw1:=hM.w1;rw[hW] at hw1;have hxl:=hM.nxl;obtain⟨w2,hw2⟩:∃w2,w2=w.alloc (.cells #[.string ⟨bs.toArray⟩,.slice na NX.length nc,.slice oa OU.length oc] 24):=⟨_,rfl⟩;have X2:Below w.heap.size w w2:=by rw[hw2];exact al (Below.refl _ _) _
 have B2:w2.heap[w.heap.size]? =some (.cells #[.string ⟨bs.toArray⟩,.slice na NX.length nc,.slice oa OU.length oc] 24 (0,0)):=by rw[hw2];exact heap_alloc_new w _
 have HC:Hid (∀V,Below w2.heap.size w2 V→V.cell? ⟨w.heap.size,0,none⟩=some (.string ⟨bs.toArray⟩)∧V.cell? ⟨w.heap.size,1,none⟩=some (.slice na NX.length nc)∧V.cell? ⟨w.heap.size,2,none⟩=some (.slice oa OU.length oc)∧NAt V na NX∧NAt V ca C):=fun V x=>by
  have Bv:=(x.block _ (lt_of_block B2)).trans B2;have y:=bt X2 x (Nat.le_refl _);exact⟨by rw[cell_of_row _ _ _ _ _ _ Bv];rfl,by rw[cell_of_row _ _ _ _ _ _ Bv];rfl,by rw[cell_of_row _ _ _ _ _ _ Bv];rfl,hnx.below y,hca.below y⟩
 have HX2:=qaa X2;have HM:=qaa hM;have HCB:=qaa hC;obtain⟨c0,c1,c2,_⟩:=HC.out w2 (Below.refl _ _);have HWD:=qaa (qb0 bs na oa NX.length nc OU.length oc w2 hbl);rw[←hWm] at HWD;unfold auV at HWD;have HW:=qaa hW;clear X2 B2 hM hC hnx hca hW hWm;unfold auV;go_enter Tryz.func37,Tryz.ntmps37;go_upto_region 1 with fail
 rw[←hw2];clear hw2;go_upto_region 2 with(go_at_call 68;refine HWD.out.mono ?_;rintro e w3 ⟨rfl,x3⟩;have X3:=qaa x3;clear x3)
 clear c0 c1 c2 HWD;obtain⟨c0,c1,c2,_⟩:=HC.out w3 X3.out;go_upto_region 3 with(at_make;refine wpList_make_full _ rfl (.tmp 15) (.tmp 15) 86 rfl w3.heap.size 4 i4 (.bool false) 1 Tryz.underlying86 hi4 hz40 hz41 .i64 .i64 _ _ OU.length rfl rfl rfl rfl (by rw[hz42];omega) (by unfold maxLen;omega) (Nat.le_refl _) ?_;intro w4 m1 m2;have F4:=qaa ((Fr.start w3).madeB m1 m2);clear m1 m2)
 clear c0 c1 c2;obtain⟨gb,hgb⟩:∃gb,gb=w3.heap.size:=⟨_,rfl⟩;rw[←hgb] at F4 ⊢;have HGB:=qaa hgb;clear hgb;obtain⟨s0,s1⟩:=F4.out.slotB (i:=0) (by simp) rfl (k:=0) (by rw[List.length_replicate];exact hn0);have F5:=qaa (F4.out.storeB (i:=0) (by simp) rfl 0 true);have h0':(0:Int)<(OU.length:Int):=by omega
 go_upto_region 4 with fail
 obtain⟨w5,hw5⟩:∃w5,w5=w4.setCell ⟨gb,0,none⟩ (.bool true):=⟨_,rfl⟩;rw[←hw5] at F5 ⊢;clear hw5 s0 s1 F4;have F6:=qaa (F5.out.cons (e:=3) (L:=qab [0]) (al (Below.refl w5.heap.size w5) (.cells #[.int .i64 0] 3)) (qgo w5 w3.heap.size 0 F5.out.bel.size) (fun b hb=>by have e:w5.heap.size=b:=Option.some.inj hb;omega));go_upto_region 5 with fail
 obtain⟨w6,hw6⟩:∃w6,w6=w5.alloc (.cells #[.int .i64 0] 3):=⟨_,rfl⟩;obtain⟨v0,hv0⟩:∃v0:Value,v0=.slice (some ⟨w5.heap.size,0,none⟩) 1 1:=⟨_,rfl⟩;rw[←hw6,←hv0] at F6 ⊢;clear hw6 hv0 F5;have S0:Hid (RhS (dfA bs NX OU) C ((List.replicate OU.length false).set 0 true) [0] 0 0):=RhS.start (D:=dfA bs NX OU) hn0;go_wp2;go_loopg [7,8] (OU.length+1) (fun g x y wr=>∃(k:Nat) (l:List Nat) (B:List Bool),y=.int .i64 (k:Nat)∧Hid (Fr w3 [(.slice (some ⟨gb,0,none⟩) OU.length OU.length,4,bC B),(x,3,qab l)] wr)∧Hid (RhS (dfA bs NX OU) C B l k 0)∧k≤l.length∧OU.length-k<g)
 case atStart=>exact⟨0,[0],_,rfl,F6,S0,by simp,by omega⟩
 case round=>
  obtain⟨k,l,B,rfl,F,S,hkl,hg⟩:=hrel;have HG:=qaa hg;clear hg F6 S0;have hfew:l.length≤OU.length:=S.out.few;by_cases hk:k<l.length
  ·obtain⟨la,lc,hv⟩:=F.out.shape (i:=1) (by simp) rfl
   rw[qaf] at hv;subst hv;have hk':(k:Int)<(l.length:Int):=by omega
   go_wp2;go_loopg [7,9] (C.length+1) (fun g x y wr=>∃(j:Nat) (l:List Nat) (B:List Bool),y=.int .i64 (j:Nat)∧j≤C.length∧Hid (Fr w3 [(.slice (some ⟨gb,0,none⟩) OU.length OU.length,4,bC B),(x,3,qab l)] wr)∧Hid (RhS (dfA bs NX OU) C B l k j)∧k<l.length∧C.length-j<g)
   case atStart=>exact⟨0,l,B,rfl,by omega,F,S,hk,by omega⟩
   case round=>
    clear F S hk' hk hfew hkl;obtain⟨j,l,B,rfl,hjl,F,S,hk,hg⟩:=hrel;have HG2:=qaa hg;clear hg;have hfew:l.length≤OU.length:=S.out.few;have hbl:B.length=OU.length:=S.out.bl;obtain⟨la,lc,hv⟩:=F.out.shape (i:=1) (by simp) rfl;rw[qaf] at hv;subst hv;have hk':(k:Int)<(l.length:Int):=by omega
    by_cases hj:j<C.length
    ·have hj':(j:Int)<(C.length:Int):=by omega
     obtain⟨lg,e,-,-⟩:=F.out.cell (i:=1) (by simp) rfl (k:=k) (by rw[qaf];exact hk);subst e;obtain⟨s0,_⟩:=F.out.slotN (i:=1) (by simp) rfl (k:=k) hk;obtain⟨c0,c1,c2,kx,kc⟩:=HC.out wr (bt X3.out F.out.bel (Nat.le_refl _));obtain⟨cb,coff,rfl,_,sc⟩:=kc.get hj;rw[←qah hj] at sc;have hs:gN l k<OU.length:=S.out.lt _ (qbo hk);obtain⟨b,hb,eb⟩:=HCB.out _ (qbo hj);have hc:gN C j<W:=by
      rw[←eb,←HW.out];exact HM.out.bw b hb
     have hix:gN l k*W+gN C j<NX.length:=by
      rw[HM.out.wl,HW.out];exact qcd hs hc
     obtain⟨xb,xoff,rfl,_,sx⟩:=kx.get hix;have hx:NX[gN l k*W+gN C j]<OU.length:=HM.out.nl _ (List.getElem_mem hix);have ex:(dfA bs NX OU).nx (gN l k) (gN C j)=NX[gN l k*W+gN C j]:=by
      show gN NX (gN l k*(NX.length/OU.length)+gN C j)=_;rw[HW.out,qah hix]
     have HOLD:Hid (gB B NX[gN l k*W+gN C j]=true→RhS (dfA bs NX OU) C B l k (j+1)):=fun h=>S.out.old (by rw[ex];exact hx) (by rw[ex];exact h)
     have HNEW:Hid (gB B NX[gN l k*W+gN C j]=false→RhS (dfA bs NX OU) C (B.set NX[gN l k*W+gN C j] true) (l++[NX[gN l k*W+gN C j]]) k (j+1)):=fun h=>by
      have:=S.out.new hk ⟨b,hb,eb⟩ (by rw[ex];exact hx) (by rw[ex];exact h);rw[ex] at this;exact this
     clear ex eb kx kc;generalize NX[gN l k*W+gN C j]=x at *;generalize gN l k=s at *;generalize gN C j=c at *;have hsW:s*W+c≤16777216:=by omega
     have f1:IntKind.i64.wrap ((s:Int)*(W:Int))=((s*W:Nat):Int):=by rw[show(s:Int)*(W:Int)=((s*W:Nat):Int) by simp];exact qak _ (by omega)
     generalize hm:s*W=m at *;have f3:IntKind.i64.wrap ((m:Int)+(c:Int))=((m+c:Nat):Int):=by rw[show(m:Int)+(c:Int)=((m+c:Nat):Int) by simp];exact qak _ (by omega)
     have hln:(m:Int)+(c:Int)<(NX.length:Int):=by omega
     have hlz:(0:Int)≤(m:Int)+(c:Int):=by omega
     have hlt:((m:Int)+(c:Int)).toNat=m+c:=by omega
     clear hm;go_wp2;go_quiet (fail);obtain⟨wq,hwq⟩:∃wq,wq=wr.drewN nq:=⟨_,rfl⟩;have FQ:=qaa (F.out.drew nq);rw[←hwq] at FQ ⊢;clear hwq s0 c0 c1 c2 sc sx f1 f3 hln hlz hlt F S;obtain⟨s0,s1⟩:=FQ.out.slotB (i:=0) (by simp) rfl (k:=x) (by omega);have hxi:(x:Int)<(OU.length:Int):=by omega
     obtain⟨fl,hfl⟩:∃fl,fl=B.getD x false:=⟨_,rfl⟩;rw[←hfl] at s0;cases fl with
     |true=>
      have S2:=qaa (HOLD.out hfl.symm);clear hfl;go_wp2;go_roundg (C.length-(j+1)+1)
      case measure=>have:=HG2.out;omega
      case rel=>exact⟨j+1,l,B,by first|rfl|go_num|(congr 1;omega),by omega,FQ,S2,hk,by omega⟩
     |false=>
      have S2:=qaa (HNEW.out hfl.symm);have F2:=qaa (FQ.out.storeB (i:=0) (by simp) rfl x true);clear hfl;go_upto_region 14 with fail
      obtain⟨wu,hwu⟩:∃wu,wu=wq.setCell ⟨gb,x,none⟩ (.bool true):=⟨_,rfl⟩;rw[←hwu] at F2 ⊢;clear hwu s0 s1;obtain⟨p1,p2,p3⟩:=F2.out.pre (i:=1) (by simp) rfl (x:Int);have P1:=qaa p1;have P2:=qaa p2;have P3:=qaa p3;have HPU:Hid (∀v' w6,w6.ownsRow w3.heap.size 3 1 v' (l.length+1) (qab l++[.int .i64 (x:Int)])→qbb (wu.alloc (.cells #[.int .i64 (x:Int)] 3)) w6 (.slice (some ⟨lg,0,none⟩) l.length lc) v'→Fr w3 [(.slice (some ⟨gb,0,none⟩) OU.length OU.length,4,bC (B.set x true)),(v',3,qab (l++[x]))] w6):=fun v' w6 g1 g2=>F2.out.push (i:=1) (by simp) rfl g1 g2
      clear p1 p2 p3;go_upto_region 10 with(at_builtin;refine qac rfl (.tmp 55) (.tmp 57) 22 rfl w3.heap.size 3 i3 (.int .i64 0) 1 8 Tryz.underlying22 hi3 hz30 hz31 hz32 rfl (by decide) _ l.length _ rfl P1.out ⟨wu.heap.size,0,none⟩ 1 1 [.int .i64 (x:Int)] rfl rfl P2.out (by simp[Value.oneCell']) (by decide) (by unfold maxLen;omega) (by omega) P3.out ?_;intro v6 w6 g1 g2;have F6:=qaa (HPU.out v6 w6 g1 g2);clear g1 g2)
      go_wp2;go_roundg (C.length-(j+1)+1)
      case measure=>have:=HG2.out;omega
      case rel=>exact⟨j+1,_,_,by first|rfl|go_num|(congr 1;omega),by omega,F6,S2,by simp;omega,by omega⟩
    ·obtain rfl:j=C.length:=by omega
     have S2:=qaa (S.out.row);have hj':¬(C.length:Int)<(C.length:Int):=by omega
     go_wp2;go_roundg (OU.length-(k+1)+1)
     case measure=>have:=HG.out;omega
     case rel=>exact⟨k+1,l,B,by first|rfl|go_num|(congr 1;omega),F,S2,by omega,by omega⟩
  ·obtain rfl:k=l.length:=by omega
   have XW:=qaa (bt HX2.out (bt X3.out F.out.bel (Nat.le_refl _)) (Nat.le_refl _));obtain⟨ao,cap,rfl,hn⟩:=F.out.nat (i:=1) (by simp) rfl;have HN:=qaa hn;have hj':¬(l.length:Int)<(l.length:Int):=by omega
   clear hn;go_wp2;go_ret;exact⟨⟨ao,cap,l,rfl,HN.out,B,S.out⟩,XW.out⟩
def PtP (l:List Nat) (key:Nat→Nat) (n:Nat) (e:Ending) (w:World):Prop:=
 (∃(pa:Option Addr) (pc:Nat) (PL:List Nat) (m:Nat),e=.returned (.tuple #[.slice pa n pc,.int .i64 (m:Nat)])∧NAt w pa PL∧PL.length=n∧m≤256∧∃NU,KnS l key l.length PL NU m)∨
 (∃(pa:Option Addr) (pn pc:Nat),e=.returned (.tuple #[.slice pa pn pc,.int .i64 257])∧∃PL NU k,k≤l.length∧KnS l key k PL NU 257)
theorem KnS.le {l PL NU:List Nat} {key:Nat→Nat} {k m:Nat} (h:KnS l key k PL NU m) (x:Nat):gN NU x≤m:=by
 by_cases hx:gN NU x=0
 ·omega
 ·obtain⟨i,h1,h2⟩:=h.c x hx
  have h3:=h.a i h1;have h4:=h.b i h1;rw[h2] at h3;omega
theorem NAt.atG {w:World} {b off i:Nat} {L:List Nat} (h:NAt w (some ⟨b,off,none⟩) L) (hi:i<L.length):w.cell? ⟨b,off+i,none⟩=some (.int .i64 ((gN L i:Nat):Int)):=by
 obtain⟨b',off',e,_,c⟩:=h.get hi;simp only[Option.some.injEq,Addr.mk.injEq] at e;obtain⟨rfl,rfl,_⟩:=e;rw[qah hi];exact c
set_option maxRecDepth 100000 in
set_option maxHeartbeats 4000000 in
theorem ql0 (bs:By) (na oa la:Option Addr) (nl nc oc lc:Nat) (OU l:List Nat) (w:World) (hn0:0<OU.length) (hn1:OU.length≤65536) (hlb:∀x∈OU,x≤65535) (hl:∀s∈l,s<OU.length) (hll:l.length≤OU.length) (hou:NAt w oa OU) (hla:NAt w la l):
 Calls Tryz.prog 81 #[auV bs na nl nc oa OU.length oc,.slice la l.length lc] w fun e w'=>PtP l (gN OU) OU.length e w'∧Below w.heap.size w w':=by
 obtain⟨i3,hi3,hz30,hz31,hz32⟩:=info_parts Tryz.info3n;obtain⟨w2,hw2⟩:∃w2,w2=w.alloc (.cells #[.string ⟨bs.toArray⟩,.slice na nl nc,.slice oa OU.length oc] 24):=⟨_,rfl⟩;have X2:Below w.heap.size w w2:=by rw[hw2];exact al (Below.refl _ _) _
 have B2:w2.heap[w.heap.size]? =some (.cells #[.string ⟨bs.toArray⟩,.slice na nl nc,.slice oa OU.length oc] 24 (0,0)):=by rw[hw2];exact heap_alloc_new w _
 have HC:Hid (∀V,Below w2.heap.size w2 V→V.cell? ⟨w.heap.size,2,none⟩=some (.slice oa OU.length oc)∧NAt V oa OU∧NAt V la l):=fun V x=>by
  have Bv:=(x.block _ (lt_of_block B2)).trans B2;have y:=bt X2 x (Nat.le_refl _);exact⟨by rw[cell_of_row _ _ _ _ _ _ Bv];rfl,hou.below y,hla.below y⟩
 have HX2:=qaa X2;have HLB:Hid (∀s,s<OU.length→gN OU s≤65535):=fun s hs=>by rw[qah hs];exact hlb _ (List.getElem_mem hs)
 have HL:Hid (∀i,i<l.length→gN l i<OU.length):=fun i hi=>hl _ (qbo hi)
 clear X2 B2 hou hla hlb hl;unfold auV;go_enter Tryz.func81,Tryz.ntmps81;go_upto_region 1 with fail
 rw[←hw2];clear hw2;go_wp2;go_loopg [6,7] (l.length+1) (fun g x y wr=>∃k t:Nat,y=.int .i64 (k:Nat)∧k≤l.length∧x=.int .i64 (t:Nat)∧t≤65535∧Hid (∀i,i<k→gN OU (gN l i)≤t)∧Hid (Below w2.heap.size w2 wr)∧l.length-k<g)
 case atStart=>exact⟨0,0,rfl,by omega,rfl,by omega,fun i hi=>by omega,Below.refl _ _,by omega⟩
 case round=>
  obtain⟨k,t,rfl,hk1,rfl,ht,HT,X,hg⟩:=hrel;have HG:=qaa hg;clear hg;obtain⟨c2,ko,kl⟩:=HC.out wr X.out;by_cases hk:k<l.length
  ·have hk':(k:Int)<(l.length:Int):=by omega
   have hs:=HL.out k hk;obtain⟨lb,loff,rfl,_,sl⟩:=kl.get hk;rw[←qah hk] at sl;obtain⟨ob,ooff,rfl,_,so⟩:=ko.get hs;rw[←qah hs] at so;have ho:=HLB.out _ hs;have HT2:Hid (∀z,t≤z→gN OU (gN l k)≤z→∀i,i<k+1→gN OU (gN l i)≤z):=fun z h1 h2 i hi=>by
    rcases Nat.lt_or_ge i k with h3|h3
    ·have:=HT.out i h3;omega
    ·rw[show i=k by omega];exact h2
   clear ko kl HT;generalize gN OU (gN l k)=o at *;generalize gN l k=s at *;have hs':(s:Int)<(OU.length:Int):=by omega
   by_cases hto:t<o
   ·have h5:(t:Int)<(o:Int):=by omega
    have HTN:=qaa (HT2.out o (by omega) (by omega));go_wp2;go_region
    all_goals
     have XQ:Hid (Below w2.heap.size w2 wr.drew):=X.out.drew;go_wp2;go_roundg (l.length-(k+1)+1)
     case measure=>have:=HG.out;omega
     case rel=>exact⟨k+1,o,by first|rfl|go_num|(congr 1;omega),by omega,by congr 1;omega,ho,HTN,XQ,by omega⟩
   ·have h5:¬(t:Int)<(o:Int):=by omega
    have HTN:=qaa (HT2.out t (by omega) (by omega));go_wp2;go_region
    all_goals
     have XQ:Hid (Below w2.heap.size w2 wr.drew):=X.out.drew;go_wp2;go_roundg (l.length-(k+1)+1)
     case measure=>have:=HG.out;omega
     case rel=>exact⟨k+1,t,by first|rfl|go_num|(congr 1;omega),by omega,by congr 1;omega,ht,HTN,XQ,by omega⟩
  ·obtain⟨wb,rfl⟩:∃wb,wb=wr:=⟨_,rfl⟩
   obtain rfl:k=l.length:=by omega
   have hk':¬(l.length:Int)<(l.length:Int):=by omega
   have f1:IntKind.i64.wrap ((t:Int)+1)=((t+1:Nat):Int):=by rw[show(t:Int)+1=((t+1:Nat):Int) by simp];exact qak _ (by omega)
   clear ko kl;go_upto_region 7 with(at_make;refine wpList_make_full _ rfl (.tmp 30) (.tmp 30) 22 rfl wb.heap.size 3 i3 (.int .i64 0) 1 Tryz.underlying22 hi3 hz30 hz31 .i64 .i64 _ _ (t+1) rfl rfl (by first|rfl|simp) (by first|rfl|simp) (by rw[hz32];omega) (by unfold maxLen;omega) (Nat.le_refl _) ?_;intro w4 m1 m2;have F4:=qaa ((Fr.start wb).madeN m1 m2);clear m1 m2)
   clear f1 c2;obtain⟨gn,hgn⟩:∃gn,gn=wb.heap.size:=⟨_,rfl⟩;rw[←hgn] at F4 ⊢;have HGN:=qaa hgn;clear hgn;obtain⟨c2,_⟩:=HC.out w4 (bt X.out F4.out.bel (Nat.le_refl _));go_upto_region 8 with(at_make;refine wpList_make_full _ rfl (.tmp 34) (.tmp 34) 22 rfl wb.heap.size 3 i3 (.int .i64 0) 1 Tryz.underlying22 hi3 hz30 hz31 .i64 .i64 _ _ OU.length rfl rfl rfl rfl (by rw[hz32];omega) (by unfold maxLen;omega) F4.out.bel.size ?_;intro w5 m1 m2;have F5:=qaa (F4.out.madeN m1 m2);clear m1 m2)
   clear c2;obtain⟨gp,hgp⟩:∃gp,gp=w4.heap.size:=⟨_,rfl⟩;rw[←hgp] at F5 ⊢;have HGP:=qaa hgp;clear hgp F4;have HTT:Hid (∀i,i<l.length→gN OU (gN l i)≤t):=fun i hi=>HT.out i hi
   clear HT HG hk' hk hk1;have K0:Hid (KnS l (gN OU) 0 (List.replicate OU.length 0) (List.replicate (t+1) 0) 0):=KnS.start (qg0 _);go_wp2;go_loopg [10,11] (l.length+1) (fun g x y wr=>∃(k m:Nat) (PL NU:List Nat),y=.int .i64 (k:Nat)∧x=.int .i64 (m:Nat)∧k≤l.length∧m≤256∧Hid (Fr wb [(.slice (some ⟨gn,0,none⟩) (t+1) (t+1),3,qab NU),(.slice (some ⟨gp,0,none⟩) OU.length OU.length,3,qab PL)] wr)∧Hid (KnS l (gN OU) k PL NU m)∧NU.length=t+1∧PL.length=OU.length∧l.length-k<g)
   case atStart=>exact⟨0,0,_,_,rfl,rfl,by omega,by omega,F5,K0,by simp,by simp,by omega⟩
   case round=>
    clear K0 F5;obtain⟨k,m,PL,NU,rfl,rfl,hk1,hm,F,S,hNU,hPL,hg⟩:=hrel;have HG:=qaa hg;clear hg;obtain⟨c2,ko,kl⟩:=HC.out _ (bt X.out F.out.bel (Nat.le_refl _));have XF:=qaa (bt HX2.out (bt X.out F.out.bel (Nat.le_refl _)) (Nat.le_refl _));by_cases hk:k<l.length
    ·have hk':(k:Int)<(l.length:Int):=by omega
     have hs:=HL.out k hk;have hot:=HTT.out k hk;obtain⟨lb,loff,rfl,_,sl⟩:=kl.get hk;rw[←qah hk] at sl;obtain⟨ob,ooff,rfl,_,so⟩:=ko.get hs;rw[←qah hs] at so;have HLC:Hid (∀V R,Fr wb R V→V.cell? ⟨lb,loff+k,none⟩=some (.int .i64 ((gN l k:Nat):Int))):=fun V R F=>(HC.out V (bt X.out F.bel (Nat.le_refl _))).2.2.atG hk
     have hqm:=S.out.le (gN OU (gN l k));have HOLD:Hid (gN NU (gN OU (gN l k))≠0→KnS l (gN OU) (k+1) (PL.set (gN l k) (gN NU (gN OU (gN l k))-1)) NU m):=fun h=>S.out.old (by omega) h
     have HNEW:Hid (gN NU (gN OU (gN l k))=0→KnS l (gN OU) (k+1) (PL.set (gN l k) m) (NU.set (gN OU (gN l k)) (m+1)) (m+1)):=fun h=>S.out.new (by omega) (by omega) h
     clear ko kl;have hs':(gN l k:Int)<(OU.length:Int):=by omega
     generalize gN OU (gN l k)=o at *;generalize gN l k=s at *;go_wp2;go_quiet (fail);obtain⟨wq,hwq⟩:∃wq,wq=wr.drewN nq:=⟨_,rfl⟩;have FQ:=qaa (F.out.drew nq);rw[←hwq] at FQ ⊢;clear hwq c2 sl so F;obtain⟨s0,s1⟩:=FQ.out.slotN (i:=0) (by simp) rfl (k:=o) (by omega);obtain⟨s2,s3⟩:=FQ.out.slotN (i:=1) (by simp) rfl (k:=s) (by omega);have hoi:(o:Int)<(t:Int)+1:=by omega
     have hsi:(s:Int)<(OU.length:Int):=by omega
     obtain⟨q,hq⟩:∃q,Hid (q=gN NU o):=⟨_,rfl⟩;rw[←hq.out] at s0 HOLD HNEW hqm;by_cases hq0:q=0
     ·subst hq0
      have S2:=qaa (HNEW.out rfl);have F2:=qaa (FQ.out.storeN (i:=0) (by simp) rfl o (m+1));have ec:(((m+1:Nat):Int))=(m:Int)+1:=by simp
      rw[ec] at F2;have f1:IntKind.i64.wrap ((m:Int)+1)=(m:Int)+1:=by rw[←ec];exact qak _ (by omega)
      clear HOLD HNEW S;go_upto_region 16 with fail
      obtain⟨wu,hwu⟩:∃wu,wu=wq.setCell ⟨gn,o,none⟩ (.int .i64 ((m:Int)+1)):=⟨_,rfl⟩;rw[←hwu] at F2 ⊢;clear hwu s0 s1 s2 s3 FQ;by_cases hm6:m=256
      ·subst hm6
       have XU:=qaa (bt HX2.out (bt X.out F2.out.bel (Nat.le_refl _)) (Nat.le_refl _));go_wp2;go_ret2;exact⟨.inr ⟨_,_,_,rfl,_,_,k+1,hk,S2.out⟩,XU.out⟩
      ·have hm7:¬(256:Int)<(m:Int)+1:=by omega
       have sl:=HLC.out wu _ F2.out;obtain⟨s0,_⟩:=F2.out.slotN (i:=0) (by simp) rfl (k:=o) (by rw[List.length_set];omega);rw[qbp (by omega),if_pos rfl,ec] at s0;obtain⟨s2,s3⟩:=F2.out.slotN (i:=1) (by simp) rfl (k:=s) (by omega);have f2:IntKind.i64.wrap ((m:Int)+1-1)=(m:Int):=by rw[show(m:Int)+1-1=(m:Int) by omega];exact qak _ (by omega)
       have F3:=qaa ((F2.out.storeN (i:=1) (by simp) rfl s m).below (Below.refl _ _).drew);go_upto_region 18 with fail
       go_region
       all_goals
        go_wp2;go_roundg (l.length-(k+1)+1)
        case measure=>have:=HG.out;omega
        case rel=>exact⟨k+1,m+1,_,_,by first|rfl|go_num|(congr 1;omega),by first|rfl|simp,by omega,by omega,F3,S2,by rw[List.length_set];exact hNU,by rw[List.length_set];exact hPL,by omega⟩
     ·have hq1:((q:Int)==0)=false:=by simp;omega
      have hq2:¬(q:Int)=0:=by omega
      have S2:=qaa (HOLD.out hq0);have F3:=qaa ((FQ.out.storeN (i:=1) (by simp) rfl s (q-1)).below (Below.refl _ _).drew);have ec:(((q-1:Nat):Int))=(q:Int)-1:=by omega
      rw[ec] at F3;have f1:IntKind.i64.wrap ((q:Int)-1)=(q:Int)-1:=by rw[←ec];exact qak _ (by omega)
      have hm7:¬(256:Int)<(m:Int):=by omega
      have sl:=HLC.out wq _ FQ.out;clear HOLD HNEW S;go_upto_region 18 with fail
      go_region
      all_goals
       go_wp2;go_roundg (l.length-(k+1)+1)
       case measure=>have:=HG.out;omega
       case rel=>exact⟨k+1,m,_,_,by first|rfl|go_num|(congr 1;omega),rfl,by omega,by omega,F3,S2,hNU,by rw[List.length_set];exact hPL,by omega⟩
    ·obtain rfl:k=l.length:=by omega
     have hk':¬(l.length:Int)<(l.length:Int):=by omega
     clear ko kl;obtain⟨pa,pc,e,hn⟩:=F.out.nat (i:=1) (by simp) rfl;have HN:=qaa hn;simp only[Value.slice.injEq] at e;obtain⟨e1,-,e3⟩:=e;subst e1 e3;clear hn;go_wp2;go_ret2;exact⟨.inl ⟨_,_,PL,m,rfl,HN.out,hPL,hm,NU,S.out⟩,XF.out⟩
set_option maxRecDepth 100000 in
set_option maxHeartbeats 8000000 in
theorem ql1 (bs:By) (na oa la ca:Option Addr) (nc oc lc cc W:Nat) (NX OU l C:List Nat) (w:World) (hM:qbv bs NX OU) (hW:NX.length/OU.length=W) (hWm:W=mxL (ntL bs)+1) (hC:∀c∈C,c<W) (hCl:C.length≤256) (hl:∀s∈l,s<OU.length) (hll:l.length≤OU.length) (hnx:NAt w na NX) (hla:NAt w la l) (hca:NAt w ca C):
 Calls Tryz.prog 82 #[auV bs na NX.length nc oa OU.length oc,.slice la l.length lc,.slice ca C.length cc] w fun e w'=>(∃(ao:Option Addr) (cap:Nat) (U:List Nat),e=.returned (.slice ao U.length cap)∧qan w' w.heap.size (.slice ao U.length cap) U∧UnS (dfA bs NX OU) l C C.length U)∧Below w.heap.size w w':=by
 obtain⟨i3,hi3,hz30,hz31,hz32⟩:=info_parts Tryz.info3n;have hn1:=hM.n1;have hbl:=hM.bl;have hw1:=hM.w1;rw[hW] at hw1;have hxl:=hM.nxl;obtain⟨w2,hw2⟩:∃w2,w2=w.alloc (.cells #[.string ⟨bs.toArray⟩,.slice na NX.length nc,.slice oa OU.length oc] 24):=⟨_,rfl⟩;have X2:Below w.heap.size w w2:=by rw[hw2];exact al (Below.refl _ _) _
 have B2:w2.heap[w.heap.size]? =some (.cells #[.string ⟨bs.toArray⟩,.slice na NX.length nc,.slice oa OU.length oc] 24 (0,0)):=by rw[hw2];exact heap_alloc_new w _
 have HC:Hid (∀V,Below w2.heap.size w2 V→V.cell? ⟨w.heap.size,0,none⟩=some (.string ⟨bs.toArray⟩)∧V.cell? ⟨w.heap.size,1,none⟩=some (.slice na NX.length nc)∧V.cell? ⟨w.heap.size,2,none⟩=some (.slice oa OU.length oc)∧NAt V na NX∧NAt V la l∧NAt V ca C):=fun V x=>by
  have Bv:=(x.block _ (lt_of_block B2)).trans B2;have y:=bt X2 x (Nat.le_refl _);exact⟨by rw[cell_of_row _ _ _ _ _ _ Bv];rfl,by rw[cell_of_row _ _ _ _ _ _ Bv];rfl,by rw[cell_of_row _ _ _ _ _ _ Bv];rfl,hnx.below y,hla.below y,hca.below y⟩
 have HX2:=qaa X2;obtain⟨c0,c1,c2,_⟩:=HC.out w2 (Below.refl _ _);have HWD:=qaa (qb0 bs na oa NX.length nc OU.length oc w2 hbl);rw[←hWm] at HWD;unfold auV at HWD;have HIX:Hid (∀s c,s<OU.length→c<W→s*W+c<NX.length):=fun s c h1 h2=>by
  rw[hM.wl,hW];exact qcd h1 h2
 have HNX:Hid (∀s c,(dfA bs NX OU).nx s c=gN NX (s*W+c)):=fun s c=>by
  show gN NX (s*(NX.length/OU.length)+c)=_;rw[hW]
 have HCW:Hid (∀j,j<C.length→gN C j<W):=fun j hj=>hC _ (qbo hj)
 have HLW:Hid (∀j,j<l.length→gN l j<OU.length):=fun j hj=>hl _ (qbo hj)
 have HUW:Hid (∀(U:List Nat) (k j:Nat),UnS (dfA bs NX OU) l C k U→j<U.length→gN U j<W):=fun U k j S hj=>hC _ (S.mem _ (qbo hj))
 clear X2 B2 hM hC hl hnx hca hla hW hWm;unfold auV;go_enter Tryz.func82,Tryz.ntmps82;go_upto_region 1 with fail
 rw[←hw2];clear hw2;go_upto_region 2 with(go_at_call 68;refine HWD.out.mono ?_;rintro e w3 ⟨rfl,x3⟩;have X3:=qaa x3;clear x3)
 clear c0 c1 c2 HWD;have F0:=qaa ((Fr.start w3).bare 3);go_wp2;go_loopg [8,9] (C.length+1) (fun g x y wr=>∃(k:Nat) (U:List Nat),y=.int .i64 (k:Nat)∧k≤C.length∧Hid (Fr w3 [(x,3,qab U)] wr)∧Hid (UnS (dfA bs NX OU) l C k U)∧C.length-k<g)
 case atStart=>exact⟨0,[],rfl,by omega,F0,UnS.start,by omega⟩
 case round=>
  obtain⟨k,U,rfl,hk1,F,S,hg⟩:=hrel;have HG:=qaa hg;clear hg F0;have hUl:=S.out.len;obtain⟨ua,uc,hv⟩:=F.out.shape (i:=0) (by simp) rfl;rw[qaf] at hv;subst hv;by_cases hk:k<C.length
  ·have hk':(k:Int)<(C.length:Int):=by omega
   go_wp2;go_loopg [10,11] (U.length+1) (fun g x y wr=>∃(i:Nat) (b:Bool),y=.int .i64 (i:Nat)∧i≤U.length∧x=.bool b∧Hid (b=true→∃i,i<U.length∧∀s∈l,(dfA bs NX OU).nx s (gN C k)=(dfA bs NX OU).nx s (gN U i))∧Hid (Fr w3 [(.slice ua U.length uc,3,qab U)] wr)∧U.length-i<g)
   case atStart=>exact⟨0,false,rfl,by omega,rfl,(fun h=>by cases h),F,by omega⟩
   case round=>
    clear F;obtain⟨i,b,rfl,hi1,rfl,HB,F,hg⟩:=hrel;have HG2:=qaa hg;clear hg;by_cases hi:i<U.length
    ·have hi':(i:Int)<(U.length:Int):=by omega
     cases b with
     |true=>
      have S2:Hid (UnS (dfA bs NX OU) l C (k+1) U):=by
       obtain⟨i0,h1,h2⟩:=HB.out rfl;exact S.out.old h1 h2
      go_wp2;go_roundg (C.length-(k+1)+1)
      case measure=>have:=HG.out;omega
      case rel=>exact⟨k+1,U,by first|rfl|go_num|(congr 1;omega),by omega,F,S2,by omega⟩
     |false=>
      clear HB;go_wp2;go_loopg [10,12] (l.length+1) (fun g x y wr=>∃(n:Nat) (b:Bool),y=.int .i64 (n:Nat)∧n≤l.length∧x=.bool b∧Hid (b=true→∀p,p<n→(dfA bs NX OU).nx (gN l p) (gN C k)=(dfA bs NX OU).nx (gN l p) (gN U i))∧Hid (Fr w3 [(.slice ua U.length uc,3,qab U)] wr)∧l.length-n<g)
      case atStart=>exact⟨0,true,rfl,by omega,rfl,fun _ p hp=>by omega,F,by omega⟩
      case round=>
       clear F;obtain⟨n,b,rfl,hn2,rfl,HB,F,hg⟩:=hrel;have HG3:=qaa hg;clear hg;by_cases hn:n<l.length
       ·have hn':(n:Int)<(l.length:Int):=by omega
        cases b with
        |false=>
         go_wp2;go_roundg (U.length-(i+1)+1)
         case measure=>have:=HG2.out;omega
         case rel=>exact⟨i+1,false,by first|rfl|go_num|(congr 1;omega),by omega,rfl,(fun h=>by cases h),F,by omega⟩
        |true=>
         obtain⟨_,c1,_,kx,kl,kc⟩:=HC.out wr (bt X3.out F.out.bel (Nat.le_refl _));obtain⟨ug,e,-,-⟩:=F.out.cell (i:=0) (by simp) rfl (k:=i) (by rw[qaf];exact hi);subst e;obtain⟨su,_⟩:=F.out.slotN (i:=0) (by simp) rfl (k:=i) hi;have hs:=HLW.out n hn;have hc:=HCW.out k hk;have hd:=HUW.out U k i S.out hi;have hx1:=HIX.out _ _ hs hc;have hx2:=HIX.out _ _ hs hd;obtain⟨lb,loff,rfl,-,-⟩:=kl.get hn;have sl:=kl.atG hn;obtain⟨cb,coff,rfl,-,-⟩:=kc.get hk;have sc:=kc.atG hk;obtain⟨xb,xoff,rfl,-,-⟩:=kx.get hx1;have sx:=kx.atG hx1;have sy:=kx.atG hx2;have HEX:Hid (gN NX (gN l n*W+gN C k)=gN NX (gN l n*W+gN U i)→true=true→∀p,p<n+1→(dfA bs NX OU).nx (gN l p) (gN C k)=(dfA bs NX OU).nx (gN l p) (gN U i)):=fun h _ p hp=>by
          rcases Nat.lt_or_ge p n with h1|h1
          ·exact HB.out rfl p h1
          ·rw[show p=n by omega,HNX.out,HNX.out];exact h
         clear kx kl kc HB;generalize gN NX (gN l n*W+gN C k)=x at *;generalize gN NX (gN l n*W+gN U i)=y at *;generalize gN l n=s at *;obtain⟨c,hcE⟩:∃c,Hid (c=gN C k):=⟨_,rfl⟩;obtain⟨d,hdE⟩:∃d,Hid (d=gN U i):=⟨_,rfl⟩;rw[←hcE.out] at sc sx hx1 hc;rw[←hdE.out] at su sy hx2 hd;have f1:IntKind.i64.wrap ((s:Int)*(W:Int))=((s*W:Nat):Int):=by rw[show(s:Int)*(W:Int)=((s*W:Nat):Int) by simp];exact qak _ (by omega)
         generalize hm:s*W=m at *;have f3:IntKind.i64.wrap ((m:Int)+(c:Int))=((m+c:Nat):Int):=by rw[show(m:Int)+(c:Int)=((m+c:Nat):Int) by simp];exact qak _ (by omega)
         have f4:IntKind.i64.wrap ((m:Int)+(d:Int))=((m+d:Nat):Int):=by rw[show(m:Int)+(d:Int)=((m+d:Nat):Int) by simp];exact qak _ (by omega)
         have hln:(m:Int)+(c:Int)<(NX.length:Int):=by omega
         have hlz:(0:Int)≤(m:Int)+(c:Int):=by omega
         have hlt:((m:Int)+(c:Int)).toNat=m+c:=by omega
         have hln2:(m:Int)+(d:Int)<(NX.length:Int):=by omega
         have hlz2:(0:Int)≤(m:Int)+(d:Int):=by omega
         have hlt2:((m:Int)+(d:Int)).toNat=m+d:=by omega
         clear hm;by_cases hxy:x=y
         ·subst hxy
          have HBN:=qaa (HEX.out rfl);clear HEX;go_wp2;go_quiet (fail);have FQ:=qaa (F.out.drew nq);go_wp2;go_roundg (l.length-(n+1)+1)
          case measure=>have:=HG3.out;omega
          case rel=>exact⟨n+1,true,by first|rfl|go_num|(congr 1;omega),by omega,by first|rfl|simp,(fun _=>HBN.out trivial),FQ,by omega⟩
         ·have hxy2:((x:Int)==(y:Int))=false:=by simp;omega
          have hxy3:¬(x:Int)=(y:Int):=by omega
          clear HEX;go_wp2;go_quiet (fail);have FQ:=qaa (F.out.drew nq);go_wp2;go_roundg (l.length-(n+1)+1)
          case measure=>have:=HG3.out;omega
          case rel=>exact⟨n+1,false,by first|rfl|go_num|(congr 1;omega),by omega,by first|rfl|simp[hxy2],(fun h=>by cases h),FQ,by omega⟩
       ·obtain rfl:n=l.length:=by omega
        have hn':¬(l.length:Int)<(l.length:Int):=by omega
        have HBF:Hid (b=true→∃i,i<U.length∧∀s∈l,(dfA bs NX OU).nx s (gN C k)=(dfA bs NX OU).nx s (gN U i)):=fun h=>⟨i,hi,fun s hs=>by
         obtain⟨p,h1,h2⟩:=qcw hs;rw[←h2];exact HB.out h p h1⟩
        go_wp2;go_roundg (U.length-(i+1)+1)
        case measure=>have:=HG2.out;omega
        case rel=>exact⟨i+1,b,by first|rfl|go_num|(congr 1;omega),by omega,rfl,HBF,F,by omega⟩
    ·obtain rfl:i=U.length:=by omega
     have hi':¬(U.length:Int)<(U.length:Int):=by omega
     cases b with
     |true=>
      have S2:Hid (UnS (dfA bs NX OU) l C (k+1) U):=by
       obtain⟨i0,h1,h2⟩:=HB.out rfl;exact S.out.old h1 h2
      go_wp2;go_roundg (C.length-(k+1)+1)
      case measure=>have:=HG.out;omega
      case rel=>exact⟨k+1,U,by first|rfl|go_num|(congr 1;omega),by omega,F,S2,by omega⟩
     |false=>
      have S2:Hid (UnS (dfA bs NX OU) l C (k+1) (U++[gN C k])):=S.out.new hk;obtain⟨_,_,_,_,_,kc⟩:=HC.out wr (bt X3.out F.out.bel (Nat.le_refl _));obtain⟨cb,coff,rfl,-,-⟩:=kc.get hk;have sc:=kc.atG hk;clear kc HB;generalize gN C k=c at *;obtain⟨p1,p2,p3⟩:=F.out.pre (i:=0) (by simp) rfl (c:Int);have P1:=qaa p1;have P2:=qaa p2;have P3:=qaa p3;have HPU:Hid (∀v' w6,w6.ownsRow w3.heap.size 3 1 v' (U.length+1) (qab U++[.int .i64 (c:Int)])→qbb (wr.alloc (.cells #[.int .i64 (c:Int)] 3)) w6 (.slice ua U.length uc) v'→Fr w3 [(v',3,qab (U++[c]))] w6):=fun v' w6 g1 g2=>F.out.push (i:=0) (by simp) rfl g1 g2
      clear p1 p2 p3;go_upto_region 5 with(at_builtin;refine qac rfl (.tmp 73) (.tmp 78) 22 rfl w3.heap.size 3 i3 (.int .i64 0) 1 8 Tryz.underlying22 hi3 hz30 hz31 hz32 rfl (by decide) _ U.length _ rfl P1.out ⟨wr.heap.size,0,none⟩ 1 1 [.int .i64 (c:Int)] rfl rfl P2.out (by simp[Value.oneCell']) (by decide) (by unfold maxLen;omega) (by omega) P3.out ?_;intro v6 w6 g1 g2;have F6:=qaa (HPU.out v6 w6 g1 g2);clear g1 g2)
      go_wp2;go_roundg (C.length-(k+1)+1)
      case measure=>have:=HG.out;omega
      case rel=>exact⟨k+1,_,by first|rfl|go_num|(congr 1;omega),by omega,F6,S2,by omega⟩
  ·obtain rfl:k=C.length:=by omega
   have hk':¬(C.length:Int)<(C.length:Int):=by omega
   have XW:=qaa (bt HX2.out (bt X3.out F.out.bel (Nat.le_refl _)) (Nat.le_refl _));have HN:Hid (qan wr w.heap.size (.slice ua U.length uc) U):=by
    have ho:=F.out.own (i:=0) (by simp) rfl;rw[qaf] at ho;exact qbx ho (Nat.le_trans HX2.out.size X3.out.size)
   go_wp2;go_ret;exact⟨⟨_,_,U,rfl,HN.out,S.out⟩,XW.out⟩
end Go.Proofs.YtdgoilkgplnhfaaGreat

