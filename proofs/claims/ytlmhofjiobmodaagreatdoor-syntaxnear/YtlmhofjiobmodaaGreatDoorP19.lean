/-
  A condition, an item, a policy held against itself; a policy of one item against none. Condition: such as are written.
-/
import Derived.Test.YtlmhofjiobmodaaGreatDoorP18
import Derived.Defers
import Derived.Recover
import Derived.Shelf.Small.Utf8
import Derived.Shelf.Small.Strs
import Derived.Test.YtlmhofjiobmodaaGreatDoorProg
import Derived.Laws.Runes
import Derived.WalkMore
import Derived.BigQuiet
import Derived.Test.YtlmhofjiobmodaaGreatDoorP05
set_option maxRecDepth 100000
set_option maxHeartbeats 16000000
namespace Go.Proofs.YtlmhofjiobmodaaGreatDoor
open Go.RowKit Go.Lib
theorem qnd {f:Nat} (hC:qpo f):qpo (f+1):=fun c w b0 vs bs hs hc=>by
 obtain⟨Bj,hsp,hkl,hkd⟩:=hs;obtain⟨he1,he2⟩:=Bj.empty;have BV:=qaa hc;obtain⟨a3,c3,a4,c4,a5,c5,a6,c6,rfl⟩:=hc.eight;rw[he1,he2] at BV ⊢;simp only[List.length_nil] at BV ⊢;obtain⟨cs,ks,hrow,hkk,_⟩:=BV.out.kidsRow;have Lb:=BV.out.spans;obtain⟨W,hW⟩:∃W,W=(w.alloc (.cells #[.int .i64 c.k,.string ⟨c.nm.toArray⟩,.string ⟨c.tx.toArray⟩,.slice a3 0 c3,.slice a4 c.sp.length c4,.slice a5 0 c5,.slice a6 c.kids.length c6,.int .i64 c.p] 60)).alloc (.cells #[.int .i64 c.k,.string ⟨c.nm.toArray⟩,.string ⟨c.tx.toArray⟩,.slice a3 0 c3,.slice a4 c.sp.length c4,.slice a5 0 c5,.slice a6 c.kids.length c6,.int .i64 c.p] 60):=⟨_,rfl⟩;obtain⟨b1,hb1⟩:∃b,b=w.heap.size:=⟨_,rfl⟩;obtain⟨b2,hb2⟩:∃b,b=w.heap.size+1:=⟨_,rfl⟩;have XW:=qaa (show Below w.heap.size w W by rw[hW];exact al (al Yj _) _);have B1:=qaa (show W.heap[b1]? =some (.cells #[.int .i64 c.k,.string ⟨c.nm.toArray⟩,.string ⟨c.tx.toArray⟩,.slice a3 0 c3,.slice a4 c.sp.length c4,.slice a5 0 c5,.slice a6 c.kids.length c6,.int .i64 c.p] 60 (0,0)) by
  rw[hW,hb1];exact(heap_alloc_old _ _ (by simp)).trans (Yh w _))
 have B2:=qaa (show W.heap[b2]? =some (.cells #[.int .i64 c.k,.string ⟨c.nm.toArray⟩,.string ⟨c.tx.toArray⟩,.slice a3 0 c3,.slice a4 c.sp.length c4,.slice a5 0 c5,.slice a6 c.kids.length c6,.int .i64 c.p] 60 (0,0)) by
  rw[hW,hb2,show w.heap.size+1=(w.alloc (.cells #[.int .i64 c.k,.string ⟨c.nm.toArray⟩,.string ⟨c.tx.toArray⟩,.slice a3 0 c3,.slice a4 c.sp.length c4,.slice a5 0 c5,.slice a6 c.kids.length c6,.int .i64 c.p] 60)).heap.size by simp];exact Yh _ _)
 have EE:=qaa (qi2 a3 c3);have Gb:=qaa (qi3 a5 c5);have Gv:=qaa (fun V (y:Below w.heap.size w V)=>qi4 hsp (own_below Lb y));have PL:=qaa (fun V (y:Below w.heap.size w V)=>qi7 hC hkl hkd (own_below hrow y) (qao.below hkk y));clear Lb hrow hkk Bj hsp hkl hkd he1 he2 hc BV hC;generalize c.k=ck at *;generalize c.nm=nm at *;generalize c.tx=tx at *;generalize c.p=cp at *;generalize c.sp.length=nsp at *;generalize c.kids.length=nkids at *;have Q1:Hid (∀V,Below W.heap.size W V→V.heap[b1]? =some (.cells #[.int .i64 ck,.string ⟨nm.toArray⟩,.string ⟨tx.toArray⟩,.slice a3 0 c3,.slice a4 nsp c4,.slice a5 0 c5,.slice a6 nkids c6,.int .i64 cp] 60 (0,0))∧V.heap[b2]? =some (.cells #[.int .i64 ck,.string ⟨nm.toArray⟩,.string ⟨tx.toArray⟩,.slice a3 0 c3,.slice a4 nsp c4,.slice a5 0 c5,.slice a6 nkids c6,.int .i64 cp] 60 (0,0))):=fun V y=>⟨(y.block b1 (Yd B1.out)).trans B1.out,(y.block b2 (Yd B2.out)).trans B2.out⟩
 obtain⟨q0,q1,q2,q3,q4,q5,q6,q7⟩:=ld8 B1.out;obtain⟨u0,u1,u2,u3,u4,u5,u6,u7⟩:=ld8 B2.out;go_enter Tryz.func71,Tryz.ntmps71;go_upto_region 1 with fail
 rw[←hb2,←hW,←hb1];clear hW hb1 hb2;go_wp2_with (first
  |(go_at_call 110;refine(EE.out _).mono ?_;rintro e w1 ⟨rfl,hw⟩;have hw2:=hw.symm;clear hw;subst hw2)
  |(go_at_call 111;refine(Gv.out _ XW.out).mono ?_;rintro e w2 ⟨rfl,x2⟩;have X2:=qaa x2;clear x2 q0 q1 q2 q3 q4 q5 q6 q7 u0 u1 u2 u3 u4 u5 u6 u7;obtain⟨q0,q1,q2,q3,q4,q5,q6,q7⟩:=ld8 (Q1.out _ X2.out).1;obtain⟨u0,u1,u2,u3,u4,u5,u6,u7⟩:=ld8 (Q1.out _ X2.out).2)
  |(go_at_call 112;refine(Gb.out _).mono ?_;rintro e w3 ⟨rfl,hw⟩;have hw2:=hw.symm;clear hw;subst hw2)
  |(go_at_call 113;refine(PL.out _ (bt XW.out X2.out Yi)).mono ?_;rintro e w4 ⟨rfl,x4⟩;have X4:=qaa (bt (bt XW.out X2.out Yi) x4 Yi);clear x4))
 go_ret;exact⟨rfl,X4.out⟩
theorem qkf:∀f,qpo f
 |0=>fun _ _ _ _ _ hs _=>absurd hs (fun h=>h)
 |f+1=>qnd (qkf f)
theorem qli {f:Nat} {it:IT} {w:World} {b0:Nat} {vs:List Value} {bs:List Nat} (hs:qoz f it.c) (hc:qaj w b0 it.c vs bs):Calls Tryz.prog 48 #[.agg (itV it vs).toArray,.agg (itV it vs).toArray] w fun e w'=>e=.returned (.bool true)∧Below w.heap.size w w':=by
 have BU:=qaa (fun V (y:Below w.heap.size w V)=>qkf f it.c V b0 vs bs hs (hc.below y));obtain⟨d3,e3,d4,e4,d5,e5,d6,e6,rfl⟩:=hc.eight;unfold itV;show Calls Tryz.prog 48 #[.agg #[.int .i64 it.k,.string ⟨it.nm.toArray⟩,.int .i64 it.c.k,.string ⟨it.c.nm.toArray⟩,.string ⟨it.c.tx.toArray⟩,.slice d3 it.c.pre.length e3,.slice d4 it.c.sp.length e4,.slice d5 it.c.ns.length e5,.slice d6 it.c.kids.length e6,.int .i64 it.c.p,.int .i64 it.p],.agg #[.int .i64 it.k,.string ⟨it.nm.toArray⟩,.int .i64 it.c.k,.string ⟨it.c.nm.toArray⟩,.string ⟨it.c.tx.toArray⟩,.slice d3 it.c.pre.length e3,.slice d4 it.c.sp.length e4,.slice d5 it.c.ns.length e5,.slice d6 it.c.kids.length e6,.int .i64 it.c.p,.int .i64 it.p]] w _;obtain⟨W,hW⟩:∃W,W=(w.alloc (.cells #[.int .i64 it.k,.string ⟨it.nm.toArray⟩,.int .i64 it.c.k,.string ⟨it.c.nm.toArray⟩,.string ⟨it.c.tx.toArray⟩,.slice d3 it.c.pre.length e3,.slice d4 it.c.sp.length e4,.slice d5 it.c.ns.length e5,.slice d6 it.c.kids.length e6,.int .i64 it.c.p,.int .i64 it.p] 62)).alloc (.cells #[.int .i64 it.k,.string ⟨it.nm.toArray⟩,.int .i64 it.c.k,.string ⟨it.c.nm.toArray⟩,.string ⟨it.c.tx.toArray⟩,.slice d3 it.c.pre.length e3,.slice d4 it.c.sp.length e4,.slice d5 it.c.ns.length e5,.slice d6 it.c.kids.length e6,.int .i64 it.c.p,.int .i64 it.p] 62):=⟨_,rfl⟩;obtain⟨b1,hb1⟩:∃b,b=w.heap.size:=⟨_,rfl⟩;obtain⟨b2,hb2⟩:∃b,b=w.heap.size+1:=⟨_,rfl⟩;have XW:=qaa (show Below w.heap.size w W by rw[hW];exact al (al Yj _) _);have B1:=qaa (show W.heap[b1]? =some (.cells #[.int .i64 it.k,.string ⟨it.nm.toArray⟩,.int .i64 it.c.k,.string ⟨it.c.nm.toArray⟩,.string ⟨it.c.tx.toArray⟩,.slice d3 it.c.pre.length e3,.slice d4 it.c.sp.length e4,.slice d5 it.c.ns.length e5,.slice d6 it.c.kids.length e6,.int .i64 it.c.p,.int .i64 it.p] 62 (0,0)) by
  rw[hW,hb1];exact(heap_alloc_old _ _ (by simp)).trans (Yh w _))
 have B2:=qaa (show W.heap[b2]? =some (.cells #[.int .i64 it.k,.string ⟨it.nm.toArray⟩,.int .i64 it.c.k,.string ⟨it.c.nm.toArray⟩,.string ⟨it.c.tx.toArray⟩,.slice d3 it.c.pre.length e3,.slice d4 it.c.sp.length e4,.slice d5 it.c.ns.length e5,.slice d6 it.c.kids.length e6,.int .i64 it.c.p,.int .i64 it.p] 62 (0,0)) by
  rw[hW,hb2,show w.heap.size+1=(w.alloc (.cells #[.int .i64 it.k,.string ⟨it.nm.toArray⟩,.int .i64 it.c.k,.string ⟨it.c.nm.toArray⟩,.string ⟨it.c.tx.toArray⟩,.slice d3 it.c.pre.length e3,.slice d4 it.c.sp.length e4,.slice d5 it.c.ns.length e5,.slice d6 it.c.kids.length e6,.int .i64 it.c.p,.int .i64 it.p] 62)).heap.size by simp];exact Yh _ _)
 clear hs hc;generalize it.k=ik at *;generalize it.nm=inm at *;generalize it.p=ip at *;generalize it.c.k=ck at *;generalize it.c.nm=nm at *;generalize it.c.tx=tx at *;generalize it.c.p=cp at *;generalize it.c.pre.length=npre at *;generalize it.c.sp.length=nsp at *;generalize it.c.ns.length=nns at *;generalize it.c.kids.length=nkids at *;obtain⟨q0,q1,q2,q3,q4,q5,q6,q7,q8,q9,q10⟩:=qic B1.out;obtain⟨u0,u1,u2,u3,u4,u5,u6,u7,u8,u9,u10⟩:=qic B2.out;go_enter Tryz.func48,Tryz.ntmps48;go_upto_region 1 with fail
 rw[←hb2,←hW,←hb1];clear hW hb1 hb2;go_wp2_with (go_at_call 71;refine(BU.out _ XW.out).mono ?_;rintro e w2 ⟨rfl,x2⟩;have X2:=qaa (bt XW.out x2 Yi);clear x2);go_ret;exact⟨rfl,X2.out⟩
theorem qi8 {f:Nat} {w:World} {b0:Nat} {v:Value} {KS:List IT} {cs:List Value} {ks:List Nat} (hl:KS.length≤1048576) (hs:∀d∈KS,qoz f d.c) (hrow:w.ownsRow b0 62 11 v KS.length cs) (hkd:qb4 w b0 KS cs ks):
 Calls Tryz.prog 47 #[v,v,.func (.func 48) #[] #[]] w fun e w'=>e=.returned (.bool true)∧Below w.heap.size w w':=by
 obtain⟨ao,cp,hv,BS⟩:=qad hrow;subst hv;have HRW:=qaa hrow;have EP:=qaa hkd;have GR:=qaa BS;have GD:=qaa hl;have Jj:=qaa hs;have hE:=qpq;clear hrow hkd BS hl hs;go_enter Tryz.func47,Tryz.ntmps47;go_wp2;go_loopg [7,8,9,17] (KS.length+1) (fun gg x7 x8 x9 x17 wr=>∃k:Nat,x17=.int .i64 (k:Nat)∧k≤KS.length∧Hid (Below w.heap.size w wr)∧KS.length-k<gg)
 case atStart=>exact⟨0,rfl,by omega,qaa Yj,by omega⟩
 case round=>
  obtain⟨k,rfl,hk,XR,hg⟩:=hrel;have HG:=qaa hg;clear hg;by_cases hlt:k<KS.length
  ·have hlt':(k:Int)<(KS.length:Int):=by omega
   obtain⟨g,rfl⟩:∃g,ao=some ⟨g,0,none⟩:=GR.out (by omega);obtain⟨it,hdd⟩:∃it,it=KS[k]:=⟨_,rfl⟩;have Jl:Hid (qoz f it.c):=by
    unfold Hid;rw[hdd];exact Jj.out _ (List.getElem_mem hlt)
   obtain⟨us,bs2,Dl,hcell⟩:=EP.out.get k hlt;rw[←hdd] at Dl hcell;obtain⟨d3,e3,d4,e4,d5,e5,d6,e6,rfl⟩:=Dl.eight;have Ej:=qaa (Dl.below XR.out);have HK:=qaa hlt;have hcl:∀V,Below w.heap.size w V→∀r,r<11→V.cell? ⟨g,k*11+r,none⟩=[.int .i64 it.k,.string ⟨it.nm.toArray⟩,.int .i64 it.c.k,.string ⟨it.c.nm.toArray⟩,.string ⟨it.c.tx.toArray⟩,.slice d3 it.c.pre.length e3,.slice d4 it.c.sp.length e4,.slice d5 it.c.ns.length e5,.slice d6 it.c.kids.length e6,.int .i64 it.c.p,.int .i64 it.p][r]? :=fun V y r hr=>by
    rw[World.ownsRow.cellAt (own_below HRW.out y) (k*11+r) (by omega),hcell r hr];rfl
   have Bu:=qaa hcl;clear hcl hcell Dl hdd hlt;have q0:=Bu.out wr XR.out 0 (by omega);have q1:=Bu.out wr XR.out 1 (by omega);have q2:=Bu.out wr XR.out 2 (by omega);have q3:=Bu.out wr XR.out 3 (by omega);have q4:=Bu.out wr XR.out 4 (by omega);have q5:=Bu.out wr XR.out 5 (by omega);have q6:=Bu.out wr XR.out 6 (by omega);have q7:=Bu.out wr XR.out 7 (by omega);have q8:=Bu.out wr XR.out 8 (by omega);have q9:=Bu.out wr XR.out 9 (by omega);have q10:=Bu.out wr XR.out 10 (by omega);simp only[List.getElem?_cons_zero,List.getElem?_cons_succ,Nat.add_zero] at q0 q1 q2 q3 q4 q5 q6 q7 q8 q9 q10;have Bg:=qaa (Yh wr (.cells #[.int .i64 it.k,.string ⟨it.nm.toArray⟩,.int .i64 it.c.k,.string ⟨it.c.nm.toArray⟩,.string ⟨it.c.tx.toArray⟩,.slice d3 it.c.pre.length e3,.slice d4 it.c.sp.length e4,.slice d5 it.c.ns.length e5,.slice d6 it.c.kids.length e6,.int .i64 it.c.p,.int .i64 it.p] 62));have XK:Hid (Below wr.heap.size wr (wr.alloc (.cells #[.int .i64 it.k,.string ⟨it.nm.toArray⟩,.int .i64 it.c.k,.string ⟨it.c.nm.toArray⟩,.string ⟨it.c.tx.toArray⟩,.slice d3 it.c.pre.length e3,.slice d4 it.c.sp.length e4,.slice d5 it.c.ns.length e5,.slice d6 it.c.kids.length e6,.int .i64 it.c.p,.int .i64 it.p] 62))):=al Yj _;go_upto_region 6 with fail
   clear q0 q1 q2 q3 q4 q5 q6 q7 q8 q9 q10;have XX:=qaa (bt XR.out XK.out Yi);have Dc:=qaa (Ej.out.below XK.out);obtain⟨P,hP⟩:∃P,P=wr.heap.size:=⟨_,rfl⟩;rw[←hP] at Bg ⊢;clear hP XK Ej XR;generalize wr.alloc (.cells #[.int .i64 it.k,.string ⟨it.nm.toArray⟩,.int .i64 it.c.k,.string ⟨it.c.nm.toArray⟩,.string ⟨it.c.tx.toArray⟩,.slice d3 it.c.pre.length e3,.slice d4 it.c.sp.length e4,.slice d5 it.c.ns.length e5,.slice d6 it.c.kids.length e6,.int .i64 it.c.p,.int .i64 it.p] 62)=wk at *;have q0:=Bu.out wk XX.out 0 (by omega);have q1:=Bu.out wk XX.out 1 (by omega);have q2:=Bu.out wk XX.out 2 (by omega);have q3:=Bu.out wk XX.out 3 (by omega);have q4:=Bu.out wk XX.out 4 (by omega);have q5:=Bu.out wk XX.out 5 (by omega);have q6:=Bu.out wk XX.out 6 (by omega);have q7:=Bu.out wk XX.out 7 (by omega);have q8:=Bu.out wk XX.out 8 (by omega);have q9:=Bu.out wk XX.out 9 (by omega);have q10:=Bu.out wk XX.out 10 (by omega);simp only[List.getElem?_cons_zero,List.getElem?_cons_succ,Nat.add_zero] at q0 q1 q2 q3 q4 q5 q6 q7 q8 q9 q10;have Dq:=qaa (Yh wk (.cells #[.int .i64 it.k,.string ⟨it.nm.toArray⟩,.int .i64 it.c.k,.string ⟨it.c.nm.toArray⟩,.string ⟨it.c.tx.toArray⟩,.slice d3 it.c.pre.length e3,.slice d4 it.c.sp.length e4,.slice d5 it.c.ns.length e5,.slice d6 it.c.kids.length e6,.int .i64 it.c.p,.int .i64 it.p] 62));have XK:Hid (Below wk.heap.size wk (wk.alloc (.cells #[.int .i64 it.k,.string ⟨it.nm.toArray⟩,.int .i64 it.c.k,.string ⟨it.c.nm.toArray⟩,.string ⟨it.c.tx.toArray⟩,.slice d3 it.c.pre.length e3,.slice d4 it.c.sp.length e4,.slice d5 it.c.ns.length e5,.slice d6 it.c.kids.length e6,.int .i64 it.c.p,.int .i64 it.p] 62))):=al Yj _;have Gc:=qaa ((XK.out.block P (Yd Bg.out)).trans Bg.out);go_upto_region 7 with fail
   clear q0 q1 q2 q3 q4 q5 q6 q7 q8 q9 q10 Bu Bg;have Da:=qaa (bt XX.out XK.out Yi);have BH:=qaa (Dc.out.below XK.out);obtain⟨Q,hQ⟩:∃Q,Q=wk.heap.size:=⟨_,rfl⟩;rw[←hQ] at Dq ⊢;clear hQ XK Dc XX;generalize wk.alloc (.cells #[.int .i64 it.k,.string ⟨it.nm.toArray⟩,.int .i64 it.c.k,.string ⟨it.c.nm.toArray⟩,.string ⟨it.c.tx.toArray⟩,.slice d3 it.c.pre.length e3,.slice d4 it.c.sp.length e4,.slice d5 it.c.ns.length e5,.slice d6 it.c.kids.length e6,.int .i64 it.c.p,.int .i64 it.p] 62)=wj at *;obtain⟨q0,q1,q2,q3,q4,q5,q6,q7,q8,q9,q10⟩:=qic Gc.out;obtain⟨u0,u1,u2,u3,u4,u5,u6,u7,u8,u9,u10⟩:=qic Dq.out;have JL:=qaa (qli Jl.out BH.out);unfold itV at JL;have fw:IntKind.i64.wrap ((k:Int)+1)=((k+1:Nat):Int):=by have:=GD.out;have:=HK.out;simp[IntKind.wrap,IntKind.bits,IntKind.signed];omega
   go_wp2_with (fail);refine JL.out.mono ?_;rintro e w3 ⟨rfl,x3⟩;have X3:=qaa (bt Da.out x3 Yi);clear x3 q0 q1 q2 q3 q4 q5 q6 q7 q8 q9 q10 u0 u1 u2 u3 u4 u5 u6 u7 u8 u9 u10;go_wp2;go_roundg (KS.length-(k+1)+1)
   case measure=>have:=HG.out;have:=HK.out;omega
   case rel=>exact⟨k+1,by first|rfl|(rw[show wrap64 ((k:Int)+1)=((k+1:Nat):Int) from fw]),by have:=HK.out;omega,X3,by omega⟩
  ·have hlt':¬(k:Int)<(KS.length:Int):=by omega
   go_wp2;go_ret;exact⟨rfl,XR.out⟩
theorem qlj {f:Nat} {w:World} {b0:Nat} {L:List IT} {v:Value} {cs:List Value} {bs:List Nat} (hl:L.length≤1048576) (hs:∀d∈L,qoz f d.c) (h:qcy w b0 L v cs bs):Calls Tryz.prog 24 #[.agg #[v],.agg #[v]] w fun e w'=>e=.returned (.bool true)∧Below w.heap.size w w':=by
 obtain⟨ao,cp,hv,_⟩:=qad h.row;subst hv;obtain⟨W,hW⟩:∃W,W=(w.alloc (.cells #[.slice ao L.length cp] 36)).alloc (.cells #[.slice ao L.length cp] 36):=⟨_,rfl⟩;obtain⟨b1,hb1⟩:∃b,b=w.heap.size:=⟨_,rfl⟩;obtain⟨b2,hb2⟩:∃b,b=w.heap.size+1:=⟨_,rfl⟩;have XW:=qaa (show Below w.heap.size w W by rw[hW];exact al (al Yj _) _);have q1:W.cell? ⟨b1,0,none⟩=some (.slice ao L.length cp):=by
  rw[Ye _ _ _ _ _ _ (show W.heap[b1]? =some (.cells #[.slice ao L.length cp] 36 (0,0)) by
   rw[hW,hb1];exact(heap_alloc_old _ _ (by simp)).trans (Yh w _))]
  rfl
 have q2:W.cell? ⟨b2,0,none⟩=some (.slice ao L.length cp):=by
  rw[Ye _ _ _ _ _ _ (show W.heap[b2]? =some (.cells #[.slice ao L.length cp] 36 (0,0)) by
   rw[hW,hb2,show w.heap.size+1=(w.alloc (.cells #[.slice ao L.length cp] 36)).heap.size by simp];exact Yh _ _)]
  rfl
 have HE:=qaa (qi8 hl hs (own_below h.row XW.out) (h.below XW.out).its);clear h hl hs;generalize L.length=n at *;go_enter Tryz.func24,Tryz.ntmps24;go_upto_region 1 with fail
 rw[←hb2,←hW,←hb1];clear hW hb1 hb2;go_wp2_with (go_at_call 47;refine HE.out.mono ?_;rintro e w2 ⟨rfl,x2⟩;have X2:=qaa (bt XW.out x2 Yi);clear x2);go_ret;exact⟨rfl,X2.out⟩
theorem qlk (a:Option Addr) (c:Nat) (fv:Value) (w:World):Calls Tryz.prog 47 #[.slice a 1 c,.slice none 0 0,fv] w fun e w'=>e=.returned (.bool false)∧w'=w:=by
 go_enter Tryz.func47,Tryz.ntmps47;go_wp2;go_ret;exact⟨rfl,rfl⟩
theorem qll (ao:Option Addr) (cp:Nat) (w:World):Calls Tryz.prog 24 #[.agg #[.slice ao 1 cp],.agg #[.slice none 0 0]] w fun e w'=>e=.returned (.bool false)∧Below w.heap.size w w':=by
 obtain⟨W,hW⟩:∃W,W=(w.alloc (.cells #[.slice ao 1 cp] 36)).alloc (.cells #[.slice none 0 0] 36):=⟨_,rfl⟩;obtain⟨b1,hb1⟩:∃b,b=w.heap.size:=⟨_,rfl⟩;obtain⟨b2,hb2⟩:∃b,b=w.heap.size+1:=⟨_,rfl⟩;have XW:=qaa (show Below w.heap.size w W by rw[hW];exact al (al Yj _) _);have q1:W.cell? ⟨b1,0,none⟩=some (.slice ao 1 cp):=by
  rw[Ye _ _ _ _ _ _ (show W.heap[b1]? =some (.cells #[.slice ao 1 cp] 36 (0,0)) by
   rw[hW,hb1];exact(heap_alloc_old _ _ (by simp)).trans (Yh w _))]
  rfl
 have q2:W.cell? ⟨b2,0,none⟩=some (.slice none 0 0):=by
  rw[Ye _ _ _ _ _ _ (show W.heap[b2]? =some (.cells #[.slice none 0 0] 36 (0,0)) by
   rw[hW,hb2,show w.heap.size+1=(w.alloc (.cells #[.slice ao 1 cp] 36)).heap.size by simp];exact Yh _ _)]
  rfl
 have HE:=qaa (qlk ao cp (.func (.func 48) #[] #[]));go_enter Tryz.func24,Tryz.ntmps24;go_upto_region 1 with fail
 rw[←hb2,←hW,←hb1];clear hW hb1 hb2;go_wp2_with (go_at_call 47;refine(HE.out _).mono ?_;rintro e w2 ⟨rfl,hw⟩;have hw2:=hw.symm;clear hw;subst hw2);go_ret;exact⟨rfl,XW.out⟩
theorem qqx (e p:Int) (w:World):(Instr.typeAssert (.iface 70 (.agg #[.int .i64 e,.int .i64 p])) 20 70 true).run Tryz.prog w=.ok (.tuple #[.agg #[.int .i64 e,.int .i64 p],.bool true]) w:=by kernel_rfl
theorem qne (w:World):(Instr.typeAssert .nilIface 20 70 true).run Tryz.prog w=.ok (.tuple #[.agg #[.int .i64 0,.int .i64 0],.bool false]) w:=by kernel_rfl
theorem qlm {w:World} {p2 p3 p4:Nat} {a2 x3 x4} {m2 c2:Nat} (e0 q:Int) (older:List PanicEntry) (h2:w.heap[p2]? =some (.cells #[.slice a2 m2 c2] 36 (0,0))) (h3:w.heap[p3]? =some (.cells #[.int .i64 x3] 37 (0,0))) (h4:w.heap[p4]? =some (.cells #[.int .i64 x4] 3 (0,0))):
 CallsD Tryz.prog 27 #[.pointer (some ⟨p2,0,none⟩),.pointer (some ⟨p3,0,none⟩),.pointer (some ⟨p4,0,none⟩)] (.panicking ({ v:=.iface 70 (.agg #[.int .i64 e0,.int .i64 q]),recovered:=false }::older)) w fun e u' w'=>
  e=.returned (.tuple #[])∧u'=.panicking ({ v:=.iface 70 (.agg #[.int .i64 e0,.int .i64 q]),recovered:=true }::older)∧w'.heap[p2]? =some (.cells #[.slice none 0 0] 36 (0,0))∧w'.heap[p3]? =some (.cells #[.int .i64 e0] 37 (0,0))∧w'.heap[p4]? =some (.cells #[.int .i64 q] 3 (0,0))∧Kept (fun k=>k=p2∨k=p3∨k=p4) w w':=by
 have Gf:=qqx;have H2:=qaa h2;have H3:=qaa h3;have H4:=qaa h4;clear h2 h3 h4;refine callsD_of_wpS Tryz.func27 rfl fun c₀ cs hu=>?_
 apply wpS_seq;apply wpS_region;simp[wpOpsS,go_sem,recoverD,hu,Tryz.ntmps27,Exit.thenS,Gf];clear Gf;have hrep:Array.replicate 13 undef=#[undef,undef,undef,undef,undef,undef,undef,undef,undef,undef,undef,undef,undef]:=rfl;simp only[hrep,Ya,Yb,Yc,List.append_toArray,List.cons_append,List.nil_append];clear hrep;refine wpS_of_wp ?_;go_upto_region 2 with fail
 have XW:Hid (Below w.heap.size w (w.alloc (.cells #[.int .i64 e0,.int .i64 q] 70))):=al Yj _;have PW:=qaa (Yh w (.cells #[.int .i64 e0,.int .i64 q] 70));obtain⟨P,hP⟩:∃P,P=w.heap.size:=⟨_,rfl⟩;rw[←hP] at PW;rw[←hP];have HP:=qaa hP;clear hP;generalize w.alloc (.cells #[.int .i64 e0,.int .i64 q] 70)=W at *;refine qam (S:=fun V=>V.cell? ⟨P,0,none⟩=some (.int .i64 e0)∧V.cell? ⟨P,1,none⟩=some (.int .i64 q)) 7 (by kernel_rfl) ?_;have Bb:Hid (Below W.heap.size W W.drew):=Yj.drew;have X2:=qaa (bt XW.out Bb.out Yi);have P2:=qaa ((Bb.out.block P (Yd PW.out)).trans PW.out);clear Bb XW PW;generalize W.drew=wd at *;have SF:Hid (∀V:World,V.heap[P]? =some (.cells #[.int .i64 e0,.int .i64 q] 70 (0,0))→V.cell? ⟨P,0,none⟩=some (.int .i64 e0)∧V.cell? ⟨P,1,none⟩=some (.int .i64 q)):=fun V h1=>⟨by rw[Ye _ _ _ _ _ _ h1];rfl,by rw[Ye _ _ _ _ _ _ h1];rfl⟩
 have S2:=qaa (SF.out wd P2.out);have n2:P≠p2:=by have:=HP.out;have:=Yd H2.out;omega
 have n3:P≠p3:=by have:=HP.out;have:=Yd H3.out;omega
 have n4:P≠p4:=by have:=HP.out;have:=Yd H4.out;omega
 have n32:p3≠p2:=fun e=>qar H3.out H2.out (by decide) e
 have n42:p4≠p2:=fun e=>qar H4.out H2.out (by decide) e
 have n43:p4≠p3:=fun e=>qar H4.out H3.out (by decide) e
 have A2:=qaa ((X2.out.block p2 (Yd H2.out)).trans H2.out);have A3:=qaa ((X2.out.block p3 (Yd H3.out)).trans H3.out);have A4:=qaa ((X2.out.block p4 (Yd H4.out)).trans H4.out);have ks:∀(V:World) (b:Nat) (u:Value),Kept (fun k=>k=b) V (V.setCell ⟨b,0,none⟩ u):=fun V b u=>Kept.setCell (F:=fun k=>k=b) (p:=⟨b,0,none⟩) (Kept.refl _ _) rfl u
 refine qac.tk 0 rfl 11 S2.out (fun a b=>by obtain⟨_,_⟩:=b;go_simp;first|done|rfl) ?_
 try simp only[Act.put,Ya,Yb,Yc]
 refine qac.tk 1 rfl 12 S2.out (fun a b=>by obtain⟨_,_⟩:=b;go_simp;first|done|rfl) ?_
 try simp only[Act.put,Ya,Yb,Yc]
 refine qac.tk 2 rfl 13 S2.out (fun a b=>by obtain⟨_,_⟩:=b;go_simp;first|done|rfl) ?_
 try simp only[Act.put,Ya,Yb,Yc]
 refine qac.tk 3 rfl 14 S2.out (fun a b=>by obtain⟨_,_⟩:=b;go_simp;first|done|rfl) ?_
 try simp only[Act.put,Ya,Yb,Yc]
 refine qac.tk 4 rfl 15 S2.out (fun a b=>by obtain⟨_,_⟩:=b;go_simp;first|done|rfl) ?_
 try simp only[Act.put,Ya,Yb,Yc]
 have c7:wd.cell? ⟨p2,0,none⟩=some (.slice a2 m2 c2):=by rw[Ye _ _ _ _ _ _ A2.out];rfl
 have f7:=Yf wd p2 0 _ _ A2.out;have k7:=ks wd p2 (.slice none 0 0);have b7:(wd.setCell ⟨p2,0,none⟩ (.slice none 0 0)).heap[p2]? =some (.cells #[(.slice none 0 0)] 36 (0,0)):=by
  have:=qab A2.out 0 (.slice none 0 0);simpa using this
 have Bp3:=qaa ((k7.block p3 (Yd A3.out) n32).trans A3.out);have Bp4:=qaa ((k7.block p4 (Yd A4.out) n42).trans A4.out);have BP:=qaa ((k7.block P (Yd P2.out) n2).trans P2.out);have Bp2:=qaa b7;have K5:Hid (Kept (fun k=>k=p2∨k=p3∨k=p4) w (wd.setCell ⟨p2,0,none⟩ (.slice none 0 0))):=(Kept.of_below X2.out).trans (k7.mono (fun _ h=>.inl h));have S5:=qaa (SF.out (wd.setCell ⟨p2,0,none⟩ (.slice none 0 0)) BP.out);refine qac.stq 5 rfl fun K hK=>?_
 go_simp;refine hK _ _ S5.out ?_;clear hK K c7 f7 k7 b7 A2 A3 A4 P2 S2 X2;generalize wd.setCell ⟨p2,0,none⟩ (.slice none 0 0)=w5 at *;have A2:=qaa Bp2.out;have A3:=qaa Bp3.out;have A4:=qaa Bp4.out;have P2:=qaa BP.out;clear Bp2 Bp3 Bp4 BP;have c7:w5.cell? ⟨p3,0,none⟩=some (.int .i64 x3):=by rw[Ye _ _ _ _ _ _ A3.out];rfl
 have f7:=Yf w5 p3 0 _ _ A3.out;have k7:=ks w5 p3 (.int .i64 e0);have b7:(w5.setCell ⟨p3,0,none⟩ (.int .i64 e0)).heap[p3]? =some (.cells #[(.int .i64 e0)] 37 (0,0)):=by
  have:=qab A3.out 0 (.int .i64 e0);simpa using this
 have Bp2:=qaa ((k7.block p2 (Yd A2.out) n32.symm).trans A2.out);have Bp4:=qaa ((k7.block p4 (Yd A4.out) n43).trans A4.out);have BP:=qaa ((k7.block P (Yd P2.out) n3).trans P2.out);have Bp3:=qaa b7;have K6:Hid (Kept (fun k=>k=p2∨k=p3∨k=p4) w (w5.setCell ⟨p3,0,none⟩ (.int .i64 e0))):=K5.out.trans (k7.mono (fun _ h=>.inr (.inl h)));have S6:=qaa (SF.out (w5.setCell ⟨p3,0,none⟩ (.int .i64 e0)) BP.out);refine qac.stq 6 rfl fun K hK=>?_
 go_simp;refine hK _ _ S6.out ?_;clear hK K c7 f7 k7 b7 A2 A3 A4 P2 S5 K5;generalize w5.setCell ⟨p3,0,none⟩ (.int .i64 e0)=w6 at *;have A2:=qaa Bp2.out;have A3:=qaa Bp3.out;have A4:=qaa Bp4.out;have P2:=qaa BP.out;clear Bp2 Bp3 Bp4 BP;have c7:w6.cell? ⟨p4,0,none⟩=some (.int .i64 x4):=by rw[Ye _ _ _ _ _ _ A4.out];rfl
 have f7:=Yf w6 p4 0 _ _ A4.out;have k7:=ks w6 p4 (.int .i64 q);have b7:(w6.setCell ⟨p4,0,none⟩ (.int .i64 q)).heap[p4]? =some (.cells #[(.int .i64 q)] 3 (0,0)):=by
  have:=qab A4.out 0 (.int .i64 q);simpa using this
 have Bp2:=qaa ((k7.block p2 (Yd A2.out) n42.symm).trans A2.out);have Bp3:=qaa ((k7.block p3 (Yd A3.out) n43.symm).trans A3.out);have Bp4:=qaa b7;have K7:Hid (Kept (fun k=>k=p2∨k=p3∨k=p4) w (w6.setCell ⟨p4,0,none⟩ (.int .i64 q))):=K6.out.trans (k7.mono (fun _ h=>.inr (.inr h)));refine qac.lst rfl fun K hK=>?_
 go_simp;refine hK _ _ ?_;clear hK K c7 f7 k7 b7 A2 A3 A4 P2 S6 K6;generalize w6.setCell ⟨p4,0,none⟩ (.int .i64 q)=w7 at *
 try go_wp2
 simp[bodyPostS,results,Tryz.results27];exact⟨Bp2.out,Bp3.out,Bp4.out,K7.out⟩
theorem qi9 (p2 p3 p4:Nat) (w:World):
 CallsD Tryz.prog 27 #[.pointer (some ⟨p2,0,none⟩),.pointer (some ⟨p3,0,none⟩),.pointer (some ⟨p4,0,none⟩)] .returning w fun e u' w'=>e=.returned (.tuple #[])∧u'=.returning∧Below w.heap.size w w':=by
 have Gf:=qne;refine callsD_of_wpS Tryz.func27 rfl fun c₀ cs hu=>?_
 apply wpS_seq;apply wpS_region;simp[wpOpsS,go_sem,recoverD,hu,Tryz.ntmps27,Exit.thenS,Gf];clear Gf;have hrep:Array.replicate 13 undef=#[undef,undef,undef,undef,undef,undef,undef,undef,undef,undef,undef,undef,undef]:=rfl;simp only[hrep,Ya,Yb,Yc,List.append_toArray,List.cons_append,List.nil_append];clear hrep;refine wpS_of_wp ?_;go_wp2;cases c₀
 simp_all [bodyPostS,results,Tryz.results27]
 exact al Yj _
end Go.Proofs.YtlmhofjiobmodaaGreatDoor
namespace Go.Proofs
open Go.Shelf
def Tryz.lays119_ren:Go.Shelf.Ren:=⟨fun|119=>188|n=>n,fun|21=>21|4=>4|n=>n,fun|n=>n⟩
theorem Tryz.lays119:Go.Proofs.Lays.n119 Tryz.prog Tryz.lays119_ren:={
 mixed:=by kernel_rfl
 f119:=Tryz.func188.trans (congrArg some (by kernel_rfl))
 t4:=Tryz.underlying4
 a4:=Tryz.isAgg4
 z4:=Tryz.sizeOf4
 v4:=Tryz.zeroValue4
 t21:=Tryz.underlying21
 a21:=Tryz.isAgg21
 z21:=Tryz.sizeOf21
 v21:=Tryz.zeroValue21 }
theorem Tryz.utf8_ValidRune (r:Int) (w:World):
 Calls Tryz.prog 188 #[.int .i32 r] w fun e w'=>e=.returned (.bool (Lib.validRune r))∧w'=w:=Any.utf8_ValidRune Tryz.lays119 r w
def Tryz.lays137_ren:Go.Shelf.Ren:=⟨fun|137=>187|217=>205|266=>221|n=>n,fun|9=>9|5=>5|3=>3|n=>n,fun|n=>n⟩
theorem Tryz.lays137:Go.Proofs.Lays.n137 Tryz.prog Tryz.lays137_ren:={
 mixed:=by kernel_rfl
 f137:=Tryz.func187.trans (congrArg some (by kernel_rfl))
 f217:=Tryz.func205.trans (congrArg some (by kernel_rfl))
 f266:=Tryz.func221.trans (congrArg some (by kernel_rfl))
 t3:=Tryz.underlying3
 a3:=Tryz.isAgg3
 z3:=Tryz.sizeOf3
 v3:=Tryz.zeroValue3
 t5:=Tryz.underlying5
 a5:=Tryz.isAgg5
 z5:=Tryz.sizeOf5
 v5:=Tryz.zeroValue5
 t9:=Tryz.underlying9
 a9:=Tryz.isAgg9
 z9:=Tryz.sizeOf9
 v9:=Tryz.zeroValue9 }
open Go.RowKit in
theorem Tryz.strings_IndexByte (s:ByteArray) (c:Int) (w:World):
 Calls Tryz.prog 187 #[.string s,.int .u8 c] w fun e w'=>e=.returned (.int .i64 (Lib.indexByte s.data.toList c.toNat.toUInt8))∧w'=w:=Any.strings_IndexByte Tryz.lays137 s c w
end Go.Proofs
namespace Go.Proofs.YtlmhofjiobmodaaGreatDoor
open Go.RowKit Go.Lib
theorem qhf:∀i (hi:i<qbm.length),qbm[i].toNat<128:=by decide
theorem qpr (l:By) (c:UInt8) (hl:∀b∈l,b.toNat<128) (hc:128≤c.toNat):Lib.indexByte l c= -1:=by
 induction l with
 |nil=>rfl
 |cons b t ih=>
  have hb:=hl b List.mem_cons_self;have hne:(b==c)=false:=by
   rw[beq_eq_false_iff_ne];intro e;rw[e] at hb;omega
  unfold Lib.indexByte;rw[hne,if_neg (by decide),ih (fun x hx=>hl x (List.mem_cons_of_mem _ hx))];rfl
theorem qja {B:Nat} {a w:World} (n:Nat) (h:Below B a w):Below B a (w.drewN n):=⟨h.os,h.tape,h.output,h.size,h.block⟩
theorem qid (r:Int) (h:128≤r) (w:World):Calls Tryz.prog 155 #[.string ⟨#[123,125,40,41,44,59,61,126,45]⟩,.int .i32 r] w fun e w'=>e=.returned (.int .i64 (-1))∧Below w.heap.size w w':=by
 have h1:(0:Int)≤r:=by omega
 have h2:¬r<128:=by omega
 by_cases he:r=65533
 ·subst he
  clear h h1 h2;obtain⟨s,hs⟩:∃s:ByteArray,Hid (s=⟨qbm.toArray⟩):=⟨_,rfl⟩;have hsl:(⟨#[123,125,40,41,44,59,61,126,45]⟩:ByteArray)=s:=hs.out.symm;rw[hsl];clear hsl;go_enter Tryz.func155,Tryz.ntmps155;go_wp2;go_loopw [] (fun wr=>∃pos:Nat,wr.heap[w.heap.size]? =some (.stringIter s pos)∧Below w.heap.size w wr∧pos≤9) (fun wr=>9-wr.iterPos w.heap.size)
  case atStart=>
   refine⟨0,?_,(Below.refl _ w).alloc Yi _,by omega⟩;have:=World.iter_heap w s 0;simpa using this
  case round=>
   obtain⟨pos,hit,hbw,hp1⟩:=hrel;have hsz:s.size=9:=by rw[hs.out];rfl
   by_cases hp:pos<9
   ·have hlow:(s[pos]'(by omega)).toNat<128:=by
     have:=qhf pos hp;have e:s[pos]'(by omega)=qbm[pos]'hp:=by
      have:=hs.out;subst this;exact qcz qbm pos _
     rw[e];exact this
    have hnx:∀ty,(Instr.next (.pointer (some ⟨w.heap.size,0,none⟩)) true ty).run Tryz.prog wr=_:=fun ty=>Lib.run_next_ascii_at wr w.heap.size s pos ty hit (by omega) hlow
    have HI2:=qaa (Lib.iterAt_heap wr w.heap.size s pos (pos+1) hit);have Bl:=qaa (Lib.below_iterAt hbw (k:=w.heap.size) Yi s (pos+1));generalize (s[pos]'(by omega)).toNat=b at *;have hb:¬(b:Int)=65533:=by omega
    go_wp2;go_roundw
    case rel=>exact⟨pos+1,HI2.out,Bl.out,by omega⟩
    case measure=>
     simp only[World.iterPos,HI2.out,hit];omega
   ·have hnx:∀ty,(Instr.next (.pointer (some ⟨w.heap.size,0,none⟩)) true ty).run Tryz.prog wr=_:=fun ty=>Lib.run_next_end_at wr w.heap.size s pos ty hit (by omega)
    have Bl:=qaa hbw;go_wp2;go_ret;exact⟨rfl,Bl.out⟩
 ·have he':(r==65533)=false:=by simp[he]
  have HV:=qaa (fun W=>Tryz.utf8_ValidRune r W);cases hv:Lib.validRune r with
  |false=>
   rw[hv] at HV;clear hv;go_enter Tryz.func155,Tryz.ntmps155;go_wp2_with (go_at_call 188;refine(HV.out _).mono ?_;rintro e wz ⟨rfl,Ba⟩;have Ba:=Ba.symm;subst Ba);go_ret;exact⟨rfl,Below.refl _ _⟩
  |true=>
   have hv2:Utf8.valid r=true:=by
    unfold Lib.validRune at hv;simp only[decide_eq_true_eq] at hv;unfold Utf8.valid;simp;omega
   rw[hv] at HV;obtain⟨e1,e2,e3⟩:=encode_facts r hv2 h;generalize hE:Utf8.encode r=E at *;have hE2:∀W:World,(convert 21 9 (.int .i32 r)).run Tryz.prog W=.ok (.string E) W:=fun W=>by
    rw[run_convert_int_string W 21 9 .i32 r (by kernel_rfl) Tryz.underlying9,hE]
   clear hv hv2 hE;obtain⟨m,hm⟩:∃m:Nat,E.size=m+1:=⟨E.size-1,by omega⟩;have hmE:m<E.size:=by omega
   obtain⟨c,hc⟩:∃c,E[m]'hmE=c:=⟨_,rfl⟩;have RP:∀hk,E[m]'hk=c:=fun _=>hc
   have Jq:128≤c.toNat:=by
    have:=e3 (by omega);have e:E[E.size-1]'(by omega)=E[m]'hmE:=by congr 1;omega
    rw[e,hc] at this;exact this
   have hm9:m<qbm.length:=by show m<9;omega
   obtain⟨a,ha⟩:∃a,qbm[m]'hm9=a:=⟨_,rfl⟩;have Lc:a.toNat<128:=by rw[←ha];exact qhf m hm9
   have RS:∀hk,(⟨#[123,125,40,41,44,59,61,126,45]⟩:ByteArray)[m]'hk=a:=fun hk=>(qcz qbm m hk).trans ha
   have Ow:=qaa (fun W=>Tryz.strings_IndexByte ((⟨#[123,125,40,41,44,59,61,126,45]⟩:ByteArray).extract (m+1) 9) (c.toNat:Int) W);have hnone:Lib.indexByte ((⟨#[123,125,40,41,44,59,61,126,45]⟩:ByteArray).extract (m+1) 9).data.toList (c.toNat:Int).toNat.toUInt8= -1:=by
    have e:(⟨#[123,125,40,41,44,59,61,126,45]⟩:ByteArray).extract (m+1) 9=⟨(qbq qbm (m+1) 9).toArray⟩:=qfq qbm (m+1) 9;rw[e];refine qpr _ _ (fun b hb=>?_) (by simpa using Jq);have:b∈qbm:=by
     have hb2:b∈qbq qbm (m+1) 9:=by simpa using hb
     exact List.mem_of_mem_take (List.mem_of_mem_drop hb2)
    obtain⟨i,hi,rfl⟩:=List.getElem_of_mem this;exact qhf i hi
   rw[hnone] at Ow;have hne:¬(a.toNat:Int)=(c.toNat:Int):=by omega
   have RU:(m:Int)<9:=by omega
   have f1:IntKind.i64.wrap ((m:Int)+1-1)=(m:Int):=by rw[show(m:Int)+1-1=(m:Int) by omega];simp[IntKind.wrap,IntKind.bits,IntKind.signed];omega
   have f1':IntKind.i64.wrap (m:Int)=(m:Int):=by simp[IntKind.wrap,IntKind.bits,IntKind.signed];omega
   have f2:IntKind.i64.wrap ((m:Int)+1)=(m:Int)+1:=by rw[show(m:Int)+1=((m+1:Nat):Int) by simp];simp[IntKind.wrap,IntKind.bits,IntKind.signed];omega
   have h9:(m:Int)+1≤9:=by omega
   have h10:(0:Int)≤(m:Int)+1:=by omega
   have h11:((m:Int)+1).toNat=m+1:=by omega
   have h12:(m:Int)<(m:Int)+1:=by omega
   clear hnone ha hc e1 e2 e3 Jq Lc;go_enter Tryz.func155,Tryz.ntmps155;go_wp2_with (go_at_call 188;refine(HV.out _).mono ?_;rintro e wz ⟨rfl,Ba⟩;have Ba:=Ba.symm;subst Ba);go_step3;go_wp2;go_loopg [9] 1 (fun g x wr=>x=.int .i64 (m:Nat)∧wr=w∧0<g)
   case atStart=>exact⟨rfl,rfl,by omega⟩
   case round=>
    obtain⟨rfl,hw,hg⟩:=hrel;subst hw;go_wp2;go_step3;go_wp2;go_region
    all_goals
     go_wp2;go_quiet (first|(go_at_call 187;exact(Ow.out _).mono fun _ _ he=>⟨he.1,_,he.2⟩));go_wp2;simp only[Exit.noGoto_ret,Exit.inBlock,Exit.then];go_ret;exact⟨rfl,qja _ Yj⟩
theorem qjb (r:Int) (h:128≤r) (w:World):Calls Tryz.prog 102 #[.int .i32 r] w fun e w'=>e=.returned (.bool false)∧Below w.heap.size w w':=by
 have HI:=qaa (qid r h w);have HC:Hid (Calls Tryz.prog 133 #[.string ⟨#[123,125,40,41,44,59,61,126,45]⟩,.int .i32 r] w fun e w'=>e=.returned (.bool false)∧Below w.heap.size w w'):=by
  unfold Hid;go_enter Tryz.func133,Tryz.ntmps133;go_wp2_with (go_at_call 155;refine HI.out.mono ?_;rintro e w1 ⟨rfl,x1⟩;have X1:=qaa x1;clear x1);go_ret;exact⟨rfl,X1.out⟩
 clear HI;go_enter Tryz.func102,Tryz.ntmps102;go_wp2_with (go_at_call 133;refine HC.out.mono ?_;rintro e w1 ⟨rfl,x1⟩;have X1:=qaa x1;clear x1);go_ret;exact⟨rfl,X1.out⟩
theorem qnf {r:Int} (h:128≤r):smB r=false:=by unfold smB;have:decide (r≤122)=false:=(by simp;omega);rw[this,Bool.and_false]
theorem qng {r:Int} (h:128≤r):grB r=false:=by unfold grB;have:decide (r≤90)=false:=(by simp;omega);rw[this,Bool.and_false]
theorem qnh {r:Int} (h:128≤r):dgB r=false:=by unfold dgB;have:decide (r≤57)=false:=(by simp;omega);rw[this,Bool.and_false]
theorem qni {r:Int} (h:128≤r):blB r=false:=by
 unfold blB;have e1:decide (r=32)=false:=by simp;omega
 have e2:decide (r=9)=false:=by simp;omega
 have e3:decide (r=10)=false:=by simp;omega
 have e4:decide (r=13)=false:=by simp;omega
 rw[e1,e2,e3,e4];rfl
theorem qrh {r:Int} (h:128≤r):sgB r=false:=by
 rw[←Bool.not_eq_true];intro hs;have hcs:r=123∨r=125∨r=40∨r=41∨r=44∨r=59∨r=61∨r=126∨r=45:=by simpa [sgB,or_assoc] using hs
 omega
theorem qjc {r:Int} (h:128≤r):txB r=false:=by unfold txB;have:decide (r≤126)=false:=(by simp;omega);rw[this,Bool.and_false]
theorem qjd {r:Int} (h:128≤r):esB r=false:=by
 unfold esB;have e1:decide (r=34)=false:=by simp;omega
 have e2:decide (r=92)=false:=by simp;omega
 rw[e1,e2];rfl
theorem qda (x:SS) (q:Int) {r:Int} (h:128≤r):qag x q r=(80,{ x with fr:=q,st:=0 }):=by
 unfold qag;rw[if_neg (by rw[qni h];decide),if_neg (by omega),if_neg (by rw[qnf h];decide),if_neg (by rw[qng h];decide),if_neg (by rw[qnh h];decide),if_neg (by omega),if_neg (by rw[qrh h];decide)]
section
variable {w:World} {base p:Nat} {s:By} {x:SS}
theorem qln (h:ScA w base p s x) (q r:Int) (h1:128≤r):
 Calls Tryz.prog 63 #[.pointer (some ⟨p,0,none⟩),.int .i64 q,.int .i32 r] w fun e w'=>ScE w base p s (qag x q r) e w':=by
 obtain⟨tv,ad,bv,h⟩:=h;obtain⟨c0,c2,c3,f2,f3⟩:=h.cells;obtain⟨s1,k1⟩:=h.setFr q;obtain⟨s2,k2⟩:=s1.setSt 0;have K2:=qaa (k1.trans k2);have S2:=qaa s2;have H1:=qaa (fun W=>qfg r W);have H2:=qaa (fun W=>qcm r W);have H3:=qaa (fun W=>qd1 r W);have H4:=qaa (fun W=>qd2 r W);have H5:=qaa (fun W=>qjb r h1 W);have HM:=qaa (qda x q h1);rw[qni h1] at H1;rw[qnf h1] at H2;rw[qng h1] at H3;rw[qnh h1] at H4;have e35:(r==35)=false:=by simp;omega
 have e34:(r==34)=false:=by simp;omega
 have n35:¬r=35:=by omega
 have n34:¬r=34:=by omega
 clear h s1 s2 k1 k2 h1;go_enter Tryz.func63,Tryz.ntmps63;go_upto_region 4 with fail
 obtain⟨w2,hw2⟩:∃w2,w2=(w.setCell ⟨p,3,none⟩ (.int .i64 q)).setCell ⟨p,2,none⟩ (.int .i64 0):=⟨_,rfl⟩;rw[←hw2] at S2 K2 ⊢;clear hw2 c0 c2 c3 f2 f3;have HS:=qaa K2.out.size;go_wp2_with (first|(go_at_call 101;refine(H1.out _).mono ?_;rintro e wz ⟨rfl,Ba⟩;have Ba:=Ba.symm;subst Ba)|(go_at_call 92;refine(H2.out _).mono ?_;rintro e wz ⟨rfl,Ba⟩;have Ba:=Ba.symm;subst Ba)|(go_at_call 94;refine(H3.out _).mono ?_;rintro e wz ⟨rfl,Ba⟩;have Ba:=Ba.symm;subst Ba)|(go_at_call 93;refine(H4.out _).mono ?_;rintro e wz ⟨rfl,Ba⟩;have Ba:=Ba.symm;subst Ba)|(go_at_call 102;refine(H5.out _).mono ?_;rintro e w3 ⟨rfl,x3⟩;have X3:=qaa x3;clear x3));go_ret;rw[HM.out];exact⟨rfl,⟨_,_,_,S2.out.below X3.out⟩,K2.out.trans (KpT.of_below X3.out),Nat.le_trans HS.out X3.out.size⟩
theorem qfw (h:ScA w base p s x) (q r:Int) (h0:0≤r) (hb:base≤w.heap.size) (hl:x.tk.length≤4294967296):
 Calls Tryz.prog 63 #[.pointer (some ⟨p,0,none⟩),.int .i64 q,.int .i32 r] w fun e w'=>ScE w base p s (qag x q r) e w':=by
 by_cases h1:r<128
 ·exact qmi h q r h0 h1 hb hl
 ·exact qln h q r (by omega)
end
end Go.Proofs.YtlmhofjiobmodaaGreatDoor

