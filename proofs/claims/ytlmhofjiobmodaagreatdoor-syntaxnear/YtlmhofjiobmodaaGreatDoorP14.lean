/-
  The writer's cond of one kind, where it goes well. Condition: what stands in it is written so.
-/
import Derived.Test.YtlmhofjiobmodaaGreatDoorP13
set_option maxRecDepth 100000
set_option maxHeartbeats 16000000
namespace Go.Proofs.YtlmhofjiobmodaaGreatDoor
open Go.RowKit Go.Lib
theorem qpd {w:World} {base wp b0 deep place:Nat} {c:CT} {vs:List Value} {bs:List Nat} {s x:WS} {M:WS→Option WS} (hk:c.k=1) (hdp:deep≤16) (hp:place≤3) (Bj:NoM c) (h:WrA w base wp s.1 s.2) (hc:qaj w b0 c vs bs)
 (hM:∀(V:World) (a b:WS),WrA V base wp a.1 a.2→qaj V b0 c vs bs→M a=some b→Calls Tryz.prog 141 #[.pointer (some ⟨wp,0,none⟩),.agg vs.toArray] V (qbz base wp V b))
 (hx0:((if 3<place then qe4 [40] s else some s).bind fun a=>(M a).bind fun b=>if 3<place then qe4 [41] b else some b)=some x):
 Calls Tryz.prog 106 #[.pointer (some ⟨wp,0,none⟩),.agg vs.toArray,.int .i64 (place:Nat),.int .i64 (deep:Nat)] w (qbz base wp w x):=by
 obtain⟨a,ha,hx1⟩:=Option.bind_eq_some_iff.1 hx0;obtain⟨b,hb,hx⟩:=Option.bind_eq_some_iff.1 hx1;clear hx0 hx1;have Dr:=qaa (fun V (y:Below w.heap.size w V)=>qd4 (hc.below y) Bj);have BV:=qaa hc;obtain⟨a3,c3,a4,c4,a5,c5,a6,c6,rfl⟩:=hc.eight;rw[hk] at Dr BV hM ⊢;have XW:=qaa (show Below w.heap.size w (w.alloc (.cells #[.int .i64 1,.string ⟨c.nm.toArray⟩,.string ⟨c.tx.toArray⟩,.slice a3 c.pre.length c3,.slice a4 c.sp.length c4,.slice a5 c.ns.length c5,.slice a6 c.kids.length c6,.int .i64 c.p] 60)) from al Yj _);have HB:=qaa (Yh w (.cells #[.int .i64 1,.string ⟨c.nm.toArray⟩,.string ⟨c.tx.toArray⟩,.slice a3 c.pre.length c3,.slice a4 c.sp.length c4,.slice a5 c.ns.length c5,.slice a6 c.kids.length c6,.int .i64 c.p] 60));have Ex:=qaa (fun V r k=>hM V a b r k hb);have RW:=qaa (h.below XW.out);have DI:=qaa (BV.out.below XW.out);have DX:=qaa (Dr.out _ XW.out);have HM:=qaa qbn;have HH:Hid (∀V,Calls Tryz.prog 138 #[.int .i64 1] V fun e w'=>e=.returned (.int .i64 3)∧Below V.heap.size V w'):=fun V=>qcp 1 V
 have hde:(deep:Int)≤16:=by omega
 clear hc Bj hM hb h BV Dr hdp;generalize c.nm=nm at *;generalize c.tx=tx at *;generalize c.p=cp at *;generalize c.pre.length=npre at *;generalize c.sp.length=nsp at *;generalize c.ns.length=nns at *;generalize c.kids.length=nkids at *;obtain⟨P,hP⟩:∃P,P=w.heap.size:=⟨_,rfl⟩;go_enter Tryz.func106,Tryz.ntmps106;go_upto_region 1 with fail
 rw[←hP] at HB ⊢;clear hP;generalize w.alloc (.cells #[.int .i64 1,.string ⟨nm.toArray⟩,.string ⟨tx.toArray⟩,.slice a3 npre c3,.slice a4 nsp c4,.slice a5 nns c5,.slice a6 nkids c6,.int .i64 cp] 60)=W at *;obtain⟨q0,q1,q2,q3,q4,q5,q6,q7⟩:=ld8 HB.out;go_upto_region 2 with(first|(go_at_call 137;refine DX.out.mono ?_;rintro e w1 ⟨rfl,x1⟩;have X1:=qaa x1;clear x1)|(go_at_call 65;refine(HM.out _).mono ?_;rintro e w2 ⟨rfl,hw⟩;have hw2:=hw.symm;clear hw;subst hw2))
 clear q0 q1 q2 q3 q4 q5 q6 q7 DX hde;have HB1:=qaa ((X1.out.block P (Yd HB.out)).trans HB.out);have R1:=qaa (RW.out.below X1.out);have Dc:=qaa (DI.out.below X1.out);have DZ:=qaa (bt XW.out X1.out Yi);clear HB RW DI XW X1;have q0:w1.cell? ⟨P,0,none⟩=some (.int .i64 1):=by rw[Ye _ _ _ _ _ _ HB1.out];rfl
 go_upto_region 3 with(go_at_call 138;refine(HH.out _).mono ?_;rintro e w2 ⟨rfl,x2⟩;have X2:=qaa x2;clear x2)
 clear q0;have HB2:=qaa ((X2.out.block P (Yd HB1.out)).trans HB1.out);have R2:=qaa (R1.out.below X2.out);have BH:=qaa (Dc.out.below X2.out);have Da:=qaa (KpO.of_below (base:=base) (wp:=wp) (bt DZ.out X2.out Yi));clear HB1 R1 Dc DZ X2 HH;by_cases hbr:3<place
 ·exact absurd hbr (by omega)
 ·rw[if_neg hbr] at ha hx
  have hbi:¬(3:Int)<(place:Int):=by omega
  obtain rfl:=Option.some.inj ha;obtain rfl:=Option.some.inj hx;clear ha hx hbr;have R3:=qaa R2.out;have HB3:=qaa HB2.out;have Dv:=qaa BH.out;have DJ:=qaa Da.out;clear R2 HB2 BH Da;go_upto_region 5 with fail
  obtain⟨q0,q1,q2,q3,q4,q5,q6,q7⟩:=ld8 HB3.out;have Dn:=qaa (Ex.out _ R3.out Dv.out);go_upto_region 14 with(go_at_call 141;refine Dn.out.mono ?_;rintro e w5 ⟨rfl,r5,x5⟩;have R5:=qaa r5;have X5:=qaa x5;clear r5 x5)
  clear q0 q1 q2 q3 q4 q5 q6 q7 Dn;go_wp2;go_end0;exact⟨rfl,R5.out,DJ.out.trans X5.out⟩
theorem qpe {w:World} {base wp b0 deep place:Nat} {c:CT} {vs:List Value} {bs:List Nat} {s x:WS} {M:WS→Option WS} (hk:c.k=2) (hdp:deep≤16) (hp:place≤3) (Bj:NoM c) (h:WrA w base wp s.1 s.2) (hc:qaj w b0 c vs bs)
 (hM:∀(V:World) (a b:WS),WrA V base wp a.1 a.2→qaj V b0 c vs bs→M a=some b→Calls Tryz.prog 141 #[.pointer (some ⟨wp,0,none⟩),.agg vs.toArray] V (qbz base wp V b))
 (hx0:((if 3<place then qe4 [40] s else some s).bind fun a=>(M a).bind fun b=>if 3<place then qe4 [41] b else some b)=some x):
 Calls Tryz.prog 106 #[.pointer (some ⟨wp,0,none⟩),.agg vs.toArray,.int .i64 (place:Nat),.int .i64 (deep:Nat)] w (qbz base wp w x):=by
 obtain⟨a,ha,hx1⟩:=Option.bind_eq_some_iff.1 hx0;obtain⟨b,hb,hx⟩:=Option.bind_eq_some_iff.1 hx1;clear hx0 hx1;have Dr:=qaa (fun V (y:Below w.heap.size w V)=>qd4 (hc.below y) Bj);have BV:=qaa hc;obtain⟨a3,c3,a4,c4,a5,c5,a6,c6,rfl⟩:=hc.eight;rw[hk] at Dr BV hM ⊢;have XW:=qaa (show Below w.heap.size w (w.alloc (.cells #[.int .i64 2,.string ⟨c.nm.toArray⟩,.string ⟨c.tx.toArray⟩,.slice a3 c.pre.length c3,.slice a4 c.sp.length c4,.slice a5 c.ns.length c5,.slice a6 c.kids.length c6,.int .i64 c.p] 60)) from al Yj _);have HB:=qaa (Yh w (.cells #[.int .i64 2,.string ⟨c.nm.toArray⟩,.string ⟨c.tx.toArray⟩,.slice a3 c.pre.length c3,.slice a4 c.sp.length c4,.slice a5 c.ns.length c5,.slice a6 c.kids.length c6,.int .i64 c.p] 60));have Ex:=qaa (fun V r k=>hM V a b r k hb);have RW:=qaa (h.below XW.out);have DI:=qaa (BV.out.below XW.out);have DX:=qaa (Dr.out _ XW.out);have HM:=qaa qbn;have HH:Hid (∀V,Calls Tryz.prog 138 #[.int .i64 2] V fun e w'=>e=.returned (.int .i64 3)∧Below V.heap.size V w'):=fun V=>qcp 2 V
 have hde:(deep:Int)≤16:=by omega
 clear hc Bj hM hb h BV Dr hdp;generalize c.nm=nm at *;generalize c.tx=tx at *;generalize c.p=cp at *;generalize c.pre.length=npre at *;generalize c.sp.length=nsp at *;generalize c.ns.length=nns at *;generalize c.kids.length=nkids at *;obtain⟨P,hP⟩:∃P,P=w.heap.size:=⟨_,rfl⟩;go_enter Tryz.func106,Tryz.ntmps106;go_upto_region 1 with fail
 rw[←hP] at HB ⊢;clear hP;generalize w.alloc (.cells #[.int .i64 2,.string ⟨nm.toArray⟩,.string ⟨tx.toArray⟩,.slice a3 npre c3,.slice a4 nsp c4,.slice a5 nns c5,.slice a6 nkids c6,.int .i64 cp] 60)=W at *;obtain⟨q0,q1,q2,q3,q4,q5,q6,q7⟩:=ld8 HB.out;go_upto_region 2 with(first|(go_at_call 137;refine DX.out.mono ?_;rintro e w1 ⟨rfl,x1⟩;have X1:=qaa x1;clear x1)|(go_at_call 65;refine(HM.out _).mono ?_;rintro e w2 ⟨rfl,hw⟩;have hw2:=hw.symm;clear hw;subst hw2))
 clear q0 q1 q2 q3 q4 q5 q6 q7 DX hde;have HB1:=qaa ((X1.out.block P (Yd HB.out)).trans HB.out);have R1:=qaa (RW.out.below X1.out);have Dc:=qaa (DI.out.below X1.out);have DZ:=qaa (bt XW.out X1.out Yi);clear HB RW DI XW X1;have q0:w1.cell? ⟨P,0,none⟩=some (.int .i64 2):=by rw[Ye _ _ _ _ _ _ HB1.out];rfl
 go_upto_region 3 with(go_at_call 138;refine(HH.out _).mono ?_;rintro e w2 ⟨rfl,x2⟩;have X2:=qaa x2;clear x2)
 clear q0;have HB2:=qaa ((X2.out.block P (Yd HB1.out)).trans HB1.out);have R2:=qaa (R1.out.below X2.out);have BH:=qaa (Dc.out.below X2.out);have Da:=qaa (KpO.of_below (base:=base) (wp:=wp) (bt DZ.out X2.out Yi));clear HB1 R1 Dc DZ X2 HH;by_cases hbr:3<place
 ·exact absurd hbr (by omega)
 ·rw[if_neg hbr] at ha hx
  have hbi:¬(3:Int)<(place:Int):=by omega
  obtain rfl:=Option.some.inj ha;obtain rfl:=Option.some.inj hx;clear ha hx hbr;have R3:=qaa R2.out;have HB3:=qaa HB2.out;have Dv:=qaa BH.out;have DJ:=qaa Da.out;clear R2 HB2 BH Da;go_upto_region 5 with fail
  obtain⟨q0,q1,q2,q3,q4,q5,q6,q7⟩:=ld8 HB3.out;have Dn:=qaa (Ex.out _ R3.out Dv.out);go_upto_region 14 with(go_at_call 141;refine Dn.out.mono ?_;rintro e w5 ⟨rfl,r5,x5⟩;have R5:=qaa r5;have X5:=qaa x5;clear r5 x5)
  clear q0 q1 q2 q3 q4 q5 q6 q7 Dn;go_wp2;go_end0;exact⟨rfl,R5.out,DJ.out.trans X5.out⟩
theorem qna {w:World} {base wp b0 deep place:Nat} {c:CT} {vs:List Value} {bs:List Nat} {s x:WS} {M:WS→Option WS} (hk:c.k=3) (hdp:deep≤16) (hp:place≤3) (Bj:NoM c) (h:WrA w base wp s.1 s.2) (hc:qaj w b0 c vs bs)
 (hM:∀(V:World) (a b:WS),WrA V base wp a.1 a.2→qaj V b0 c vs bs→M a=some b→Calls Tryz.prog 104 #[.pointer (some ⟨wp,0,none⟩),.string ⟨c.nm.toArray⟩] V (qbz base wp V b))
 (hx0:((if 3<place then qe4 [40] s else some s).bind fun a=>(M a).bind fun b=>if 3<place then qe4 [41] b else some b)=some x):
 Calls Tryz.prog 106 #[.pointer (some ⟨wp,0,none⟩),.agg vs.toArray,.int .i64 (place:Nat),.int .i64 (deep:Nat)] w (qbz base wp w x):=by
 obtain⟨a,ha,hx1⟩:=Option.bind_eq_some_iff.1 hx0;obtain⟨b,hb,hx⟩:=Option.bind_eq_some_iff.1 hx1;clear hx0 hx1;have Dr:=qaa (fun V (y:Below w.heap.size w V)=>qd4 (hc.below y) Bj);have BV:=qaa hc;obtain⟨a3,c3,a4,c4,a5,c5,a6,c6,rfl⟩:=hc.eight;rw[hk] at Dr BV hM ⊢;have XW:=qaa (show Below w.heap.size w (w.alloc (.cells #[.int .i64 3,.string ⟨c.nm.toArray⟩,.string ⟨c.tx.toArray⟩,.slice a3 c.pre.length c3,.slice a4 c.sp.length c4,.slice a5 c.ns.length c5,.slice a6 c.kids.length c6,.int .i64 c.p] 60)) from al Yj _);have HB:=qaa (Yh w (.cells #[.int .i64 3,.string ⟨c.nm.toArray⟩,.string ⟨c.tx.toArray⟩,.slice a3 c.pre.length c3,.slice a4 c.sp.length c4,.slice a5 c.ns.length c5,.slice a6 c.kids.length c6,.int .i64 c.p] 60));have Ex:=qaa (fun V r k=>hM V a b r k hb);have RW:=qaa (h.below XW.out);have DI:=qaa (BV.out.below XW.out);have DX:=qaa (Dr.out _ XW.out);have HM:=qaa qbn;have HH:Hid (∀V,Calls Tryz.prog 138 #[.int .i64 3] V fun e w'=>e=.returned (.int .i64 3)∧Below V.heap.size V w'):=fun V=>qcp 3 V
 have hde:(deep:Int)≤16:=by omega
 clear hc Bj hM hb h BV Dr hdp;generalize c.nm=nm at *;generalize c.tx=tx at *;generalize c.p=cp at *;generalize c.pre.length=npre at *;generalize c.sp.length=nsp at *;generalize c.ns.length=nns at *;generalize c.kids.length=nkids at *;obtain⟨P,hP⟩:∃P,P=w.heap.size:=⟨_,rfl⟩;go_enter Tryz.func106,Tryz.ntmps106;go_upto_region 1 with fail
 rw[←hP] at HB ⊢;clear hP;generalize w.alloc (.cells #[.int .i64 3,.string ⟨nm.toArray⟩,.string ⟨tx.toArray⟩,.slice a3 npre c3,.slice a4 nsp c4,.slice a5 nns c5,.slice a6 nkids c6,.int .i64 cp] 60)=W at *;obtain⟨q0,q1,q2,q3,q4,q5,q6,q7⟩:=ld8 HB.out;go_upto_region 2 with(first|(go_at_call 137;refine DX.out.mono ?_;rintro e w1 ⟨rfl,x1⟩;have X1:=qaa x1;clear x1)|(go_at_call 65;refine(HM.out _).mono ?_;rintro e w2 ⟨rfl,hw⟩;have hw2:=hw.symm;clear hw;subst hw2))
 clear q0 q1 q2 q3 q4 q5 q6 q7 DX hde;have HB1:=qaa ((X1.out.block P (Yd HB.out)).trans HB.out);have R1:=qaa (RW.out.below X1.out);have Dc:=qaa (DI.out.below X1.out);have DZ:=qaa (bt XW.out X1.out Yi);clear HB RW DI XW X1;have q0:w1.cell? ⟨P,0,none⟩=some (.int .i64 3):=by rw[Ye _ _ _ _ _ _ HB1.out];rfl
 go_upto_region 3 with(go_at_call 138;refine(HH.out _).mono ?_;rintro e w2 ⟨rfl,x2⟩;have X2:=qaa x2;clear x2)
 clear q0;have HB2:=qaa ((X2.out.block P (Yd HB1.out)).trans HB1.out);have R2:=qaa (R1.out.below X2.out);have BH:=qaa (Dc.out.below X2.out);have Da:=qaa (KpO.of_below (base:=base) (wp:=wp) (bt DZ.out X2.out Yi));clear HB1 R1 Dc DZ X2 HH;by_cases hbr:3<place
 ·exact absurd hbr (by omega)
 ·rw[if_neg hbr] at ha hx
  have hbi:¬(3:Int)<(place:Int):=by omega
  obtain rfl:=Option.some.inj ha;obtain rfl:=Option.some.inj hx;clear ha hx hbr;have R3:=qaa R2.out;have HB3:=qaa HB2.out;have Dv:=qaa BH.out;have DJ:=qaa Da.out;clear R2 HB2 BH Da;go_upto_region 5 with fail
  obtain⟨q0,q1,q2,q3,q4,q5,q6,q7⟩:=ld8 HB3.out;have Dn:=qaa (Ex.out _ R3.out Dv.out);go_upto_region 14 with(go_at_call 104;refine Dn.out.mono ?_;rintro e w5 ⟨rfl,r5,x5⟩;have R5:=qaa r5;have X5:=qaa x5;clear r5 x5)
  clear q0 q1 q2 q3 q4 q5 q6 q7 Dn;go_wp2;go_end0;exact⟨rfl,R5.out,DJ.out.trans X5.out⟩
theorem qpf {w:World} {base wp b0 deep place:Nat} {c:CT} {vs:List Value} {bs:List Nat} {s x:WS} {M:WS→Option WS} (hk:c.k=4) (hdp:deep≤16) (hp:place≤3) (Bj:NoM c) (h:WrA w base wp s.1 s.2) (hc:qaj w b0 c vs bs)
 (hM:∀(V:World) (a b:WS),WrA V base wp a.1 a.2→qaj V b0 c vs bs→M a=some b→Calls Tryz.prog 139 #[.pointer (some ⟨wp,0,none⟩),.agg vs.toArray,.agg #[.string ⟨#[110,111,116]⟩,.int .i64 4,.int .i64 2],.int .i64 (deep:Nat)] V (qbz base wp V b))
 (hx0:((if 2<place then qe4 [40] s else some s).bind fun a=>(M a).bind fun b=>if 2<place then qe4 [41] b else some b)=some x):
 Calls Tryz.prog 106 #[.pointer (some ⟨wp,0,none⟩),.agg vs.toArray,.int .i64 (place:Nat),.int .i64 (deep:Nat)] w (qbz base wp w x):=by
 obtain⟨a,ha,hx1⟩:=Option.bind_eq_some_iff.1 hx0;obtain⟨b,hb,hx⟩:=Option.bind_eq_some_iff.1 hx1;clear hx0 hx1;have Dr:=qaa (fun V (y:Below w.heap.size w V)=>qd4 (hc.below y) Bj);have BV:=qaa hc;obtain⟨a3,c3,a4,c4,a5,c5,a6,c6,rfl⟩:=hc.eight;rw[hk] at Dr BV hM ⊢;have XW:=qaa (show Below w.heap.size w (w.alloc (.cells #[.int .i64 4,.string ⟨c.nm.toArray⟩,.string ⟨c.tx.toArray⟩,.slice a3 c.pre.length c3,.slice a4 c.sp.length c4,.slice a5 c.ns.length c5,.slice a6 c.kids.length c6,.int .i64 c.p] 60)) from al Yj _);have HB:=qaa (Yh w (.cells #[.int .i64 4,.string ⟨c.nm.toArray⟩,.string ⟨c.tx.toArray⟩,.slice a3 c.pre.length c3,.slice a4 c.sp.length c4,.slice a5 c.ns.length c5,.slice a6 c.kids.length c6,.int .i64 c.p] 60));have Ex:=qaa (fun V r k=>hM V a b r k hb);have RW:=qaa (h.below XW.out);have DI:=qaa (BV.out.below XW.out);have DX:=qaa (Dr.out _ XW.out);have HM:=qaa qbn;have HH:Hid (∀V,Calls Tryz.prog 138 #[.int .i64 4] V fun e w'=>e=.returned (.int .i64 2)∧Below V.heap.size V w'):=fun V=>qcp 4 V
 have hde:(deep:Int)≤16:=by omega
 clear hc Bj hM hb h BV Dr hdp;generalize c.nm=nm at *;generalize c.tx=tx at *;generalize c.p=cp at *;generalize c.pre.length=npre at *;generalize c.sp.length=nsp at *;generalize c.ns.length=nns at *;generalize c.kids.length=nkids at *;obtain⟨P,hP⟩:∃P,P=w.heap.size:=⟨_,rfl⟩;go_enter Tryz.func106,Tryz.ntmps106;go_upto_region 1 with fail
 rw[←hP] at HB ⊢;clear hP;generalize w.alloc (.cells #[.int .i64 4,.string ⟨nm.toArray⟩,.string ⟨tx.toArray⟩,.slice a3 npre c3,.slice a4 nsp c4,.slice a5 nns c5,.slice a6 nkids c6,.int .i64 cp] 60)=W at *;obtain⟨q0,q1,q2,q3,q4,q5,q6,q7⟩:=ld8 HB.out;go_upto_region 2 with(first|(go_at_call 137;refine DX.out.mono ?_;rintro e w1 ⟨rfl,x1⟩;have X1:=qaa x1;clear x1)|(go_at_call 65;refine(HM.out _).mono ?_;rintro e w2 ⟨rfl,hw⟩;have hw2:=hw.symm;clear hw;subst hw2))
 clear q0 q1 q2 q3 q4 q5 q6 q7 DX hde;have HB1:=qaa ((X1.out.block P (Yd HB.out)).trans HB.out);have R1:=qaa (RW.out.below X1.out);have Dc:=qaa (DI.out.below X1.out);have DZ:=qaa (bt XW.out X1.out Yi);clear HB RW DI XW X1;have q0:w1.cell? ⟨P,0,none⟩=some (.int .i64 4):=by rw[Ye _ _ _ _ _ _ HB1.out];rfl
 go_upto_region 3 with(go_at_call 138;refine(HH.out _).mono ?_;rintro e w2 ⟨rfl,x2⟩;have X2:=qaa x2;clear x2)
 clear q0;have HB2:=qaa ((X2.out.block P (Yd HB1.out)).trans HB1.out);have R2:=qaa (R1.out.below X2.out);have BH:=qaa (Dc.out.below X2.out);have Da:=qaa (KpO.of_below (base:=base) (wp:=wp) (bt DZ.out X2.out Yi));clear HB1 R1 Dc DZ X2 HH;by_cases hbr:2<place
 ·rw[if_pos hbr] at ha hx
  have hbi:(2:Int)<(place:Int):=by omega
  have HO:=qaa (qbh R2.out ha);have HF:=qaa (fun V (r:WrA V base wp b.1 b.2)=>qbh r hx);clear ha hx hbr;go_upto_region 5 with(go_at_call 105;refine HO.out.mono ?_;rintro e w3 ⟨rfl,r3,x3⟩;have R3:=qaa r3;have X3:=qaa x3;clear r3 x3)
  have HB3:=qaa (X3.out.box HB2.out (by decide) (R2.out.ne HB2.out (by decide)));have Dv:=qaa (BH.out.kpo R2.out X3.out);have DJ:=qaa (Da.out.trans X3.out);clear HB2 R2 BH Da X3 HO;have q0:w3.cell? ⟨P,0,none⟩=some (.int .i64 4):=by rw[Ye _ _ _ _ _ _ HB3.out];rfl
  go_upto_region 8 with fail
  have XD:Hid (Below w3.heap.size w3 w3.drew):=Yj.drew;have HQ:Hid (∀V,Below w3.heap.size w3 V→V.cell? ⟨P,0,none⟩=some (.int .i64 4)∧V.cell? ⟨P,1,none⟩=some (.string ⟨nm.toArray⟩)∧V.cell? ⟨P,2,none⟩=some (.string ⟨tx.toArray⟩)∧V.cell? ⟨P,3,none⟩=some (.slice a3 npre c3)∧V.cell? ⟨P,4,none⟩=some (.slice a4 nsp c4)∧V.cell? ⟨P,5,none⟩=some (.slice a5 nns c5)∧V.cell? ⟨P,6,none⟩=some (.slice a6 nkids c6)∧V.cell? ⟨P,7,none⟩=some (.int .i64 cp)):=fun V y=>ld8 ((y.block P (Yd HB3.out)).trans HB3.out)
  have Gm:=qaa qaq;have hix:=qtf;clear q0;refine qam (S:=fun V=>Below w3.heap.size w3 V) 6 (by kernel_rfl) ?_;refine qac.tk 0 rfl 32 XD.out (fun a b=>by obtain⟨_,_,_,_,_,_,_,_⟩:=HQ.out a b;go_simp;first|done|rfl) ?_
  try simp only[Act.put,Ya,Yb,Yc]
  refine qac.tk 1 rfl 33 XD.out (fun a b=>by obtain⟨_,_,_,_,_,_,_,_⟩:=HQ.out a b;go_simp;first|done|rfl) ?_
  try simp only[Act.put,Ya,Yb,Yc]
  refine qac.tk 3 rfl 35 XD.out (fun a b=>by obtain⟨_,_,_,_,_,_,_,_⟩:=HQ.out a b;go_simp;first|done|rfl) ?_
  try simp only[Act.put,Ya,Yb,Yc]
  refine qac.tk 5 rfl 37 XD.out (fun a b=>by obtain⟨_,_,_,_,_,_,_,_⟩:=HQ.out a b;go_simp;first|done|rfl) ?_
  try simp only[Act.put,Ya,Yb,Yc]
  refine qac.stq 2 rfl fun K hK=>?_
  go_simp;refine(Gm.out _).mono ?_;rintro e w4 ⟨rfl,x4⟩;have X4:Hid (Below w3.heap.size w3 w4):=bt XD.out x4 Yi;refine hK _ _ X4.out ?_;clear hK K x4
  try simp only[Act.put,Ya,Yb,Yc]
  refine qac.tk 4 rfl 36 X4.out (fun a b=>by obtain⟨_,_,_,_,_,_,_,_⟩:=HQ.out a b;go_simp;first|done|rfl) ?_
  try simp only[Act.put,Ya,Yb,Yc]
  have Dn:=qaa (Ex.out _ (R3.out.below X4.out) (Dv.out.below X4.out));refine qac.lst rfl fun K hK=>?_
  go_simp;refine Dn.out.mono ?_;rintro e w5 ⟨rfl,r5,x5⟩;refine hK _ _ ?_;have R5:=qaa r5;have X5:=qaa ((KpO.of_below (base:=base) (wp:=wp) X4.out).trans x5);clear hK K r5 x5 Dn hix;go_wp2_with (go_at_call 105;refine(HF.out _ R5.out).mono ?_;rintro e w6 ⟨rfl,r6,x6⟩;have R6:=qaa r6;have X6:=qaa x6;clear r6 x6);go_end0;exact⟨rfl,R6.out,DJ.out.trans (X5.out.trans X6.out)⟩
 ·rw[if_neg hbr] at ha hx
  have hbi:¬(2:Int)<(place:Int):=by omega
  obtain rfl:=Option.some.inj ha;obtain rfl:=Option.some.inj hx;clear ha hx hbr;have R3:=qaa R2.out;have HB3:=qaa HB2.out;have Dv:=qaa BH.out;have DJ:=qaa Da.out;clear R2 HB2 BH Da;go_upto_region 5 with fail
  have q0:w2.cell? ⟨P,0,none⟩=some (.int .i64 4):=by rw[Ye _ _ _ _ _ _ HB3.out];rfl
  go_upto_region 8 with fail
  have XD:Hid (Below w2.heap.size w2 w2.drew):=Yj.drew;have HQ:Hid (∀V,Below w2.heap.size w2 V→V.cell? ⟨P,0,none⟩=some (.int .i64 4)∧V.cell? ⟨P,1,none⟩=some (.string ⟨nm.toArray⟩)∧V.cell? ⟨P,2,none⟩=some (.string ⟨tx.toArray⟩)∧V.cell? ⟨P,3,none⟩=some (.slice a3 npre c3)∧V.cell? ⟨P,4,none⟩=some (.slice a4 nsp c4)∧V.cell? ⟨P,5,none⟩=some (.slice a5 nns c5)∧V.cell? ⟨P,6,none⟩=some (.slice a6 nkids c6)∧V.cell? ⟨P,7,none⟩=some (.int .i64 cp)):=fun V y=>ld8 ((y.block P (Yd HB3.out)).trans HB3.out)
  have Gm:=qaa qaq;have hix:=qtf;clear q0;refine qam (S:=fun V=>Below w2.heap.size w2 V) 6 (by kernel_rfl) ?_;refine qac.tk 0 rfl 32 XD.out (fun a b=>by obtain⟨_,_,_,_,_,_,_,_⟩:=HQ.out a b;go_simp;first|done|rfl) ?_
  try simp only[Act.put,Ya,Yb,Yc]
  refine qac.tk 1 rfl 33 XD.out (fun a b=>by obtain⟨_,_,_,_,_,_,_,_⟩:=HQ.out a b;go_simp;first|done|rfl) ?_
  try simp only[Act.put,Ya,Yb,Yc]
  refine qac.tk 3 rfl 35 XD.out (fun a b=>by obtain⟨_,_,_,_,_,_,_,_⟩:=HQ.out a b;go_simp;first|done|rfl) ?_
  try simp only[Act.put,Ya,Yb,Yc]
  refine qac.tk 5 rfl 37 XD.out (fun a b=>by obtain⟨_,_,_,_,_,_,_,_⟩:=HQ.out a b;go_simp;first|done|rfl) ?_
  try simp only[Act.put,Ya,Yb,Yc]
  refine qac.stq 2 rfl fun K hK=>?_
  go_simp;refine(Gm.out _).mono ?_;rintro e w4 ⟨rfl,x4⟩;have X4:Hid (Below w2.heap.size w2 w4):=bt XD.out x4 Yi;refine hK _ _ X4.out ?_;clear hK K x4
  try simp only[Act.put,Ya,Yb,Yc]
  refine qac.tk 4 rfl 36 X4.out (fun a b=>by obtain⟨_,_,_,_,_,_,_,_⟩:=HQ.out a b;go_simp;first|done|rfl) ?_
  try simp only[Act.put,Ya,Yb,Yc]
  have Dn:=qaa (Ex.out _ (R3.out.below X4.out) (Dv.out.below X4.out));refine qac.lst rfl fun K hK=>?_
  go_simp;refine Dn.out.mono ?_;rintro e w5 ⟨rfl,r5,x5⟩;refine hK _ _ ?_;have R5:=qaa r5;have X5:=qaa ((KpO.of_below (base:=base) (wp:=wp) X4.out).trans x5);clear hK K r5 x5 Dn hix;go_wp2;go_end0;exact⟨rfl,R5.out,DJ.out.trans X5.out⟩
theorem qpg {w:World} {base wp b0 deep place:Nat} {c:CT} {vs:List Value} {bs:List Nat} {s x:WS} {M:WS→Option WS} (hk:c.k=5) (hdp:deep≤16) (hp:place≤3) (Bj:NoM c) (h:WrA w base wp s.1 s.2) (hc:qaj w b0 c vs bs)
 (hM:∀(V:World) (a b:WS),WrA V base wp a.1 a.2→qaj V b0 c vs bs→M a=some b→Calls Tryz.prog 140 #[.pointer (some ⟨wp,0,none⟩),.agg vs.toArray,.agg #[.string ⟨#[97,110,100]⟩,.int .i64 5,.int .i64 2],.int .i64 (deep:Nat)] V (qbz base wp V b))
 (hx0:((if 1<place then qe4 [40] s else some s).bind fun a=>(M a).bind fun b=>if 1<place then qe4 [41] b else some b)=some x):
 Calls Tryz.prog 106 #[.pointer (some ⟨wp,0,none⟩),.agg vs.toArray,.int .i64 (place:Nat),.int .i64 (deep:Nat)] w (qbz base wp w x):=by
 obtain⟨a,ha,hx1⟩:=Option.bind_eq_some_iff.1 hx0;obtain⟨b,hb,hx⟩:=Option.bind_eq_some_iff.1 hx1;clear hx0 hx1;have Dr:=qaa (fun V (y:Below w.heap.size w V)=>qd4 (hc.below y) Bj);have BV:=qaa hc;obtain⟨a3,c3,a4,c4,a5,c5,a6,c6,rfl⟩:=hc.eight;rw[hk] at Dr BV hM ⊢;have XW:=qaa (show Below w.heap.size w (w.alloc (.cells #[.int .i64 5,.string ⟨c.nm.toArray⟩,.string ⟨c.tx.toArray⟩,.slice a3 c.pre.length c3,.slice a4 c.sp.length c4,.slice a5 c.ns.length c5,.slice a6 c.kids.length c6,.int .i64 c.p] 60)) from al Yj _);have HB:=qaa (Yh w (.cells #[.int .i64 5,.string ⟨c.nm.toArray⟩,.string ⟨c.tx.toArray⟩,.slice a3 c.pre.length c3,.slice a4 c.sp.length c4,.slice a5 c.ns.length c5,.slice a6 c.kids.length c6,.int .i64 c.p] 60));have Ex:=qaa (fun V r k=>hM V a b r k hb);have RW:=qaa (h.below XW.out);have DI:=qaa (BV.out.below XW.out);have DX:=qaa (Dr.out _ XW.out);have HM:=qaa qbn;have HH:Hid (∀V,Calls Tryz.prog 138 #[.int .i64 5] V fun e w'=>e=.returned (.int .i64 1)∧Below V.heap.size V w'):=fun V=>qcp 5 V
 have hde:(deep:Int)≤16:=by omega
 clear hc Bj hM hb h BV Dr hdp;generalize c.nm=nm at *;generalize c.tx=tx at *;generalize c.p=cp at *;generalize c.pre.length=npre at *;generalize c.sp.length=nsp at *;generalize c.ns.length=nns at *;generalize c.kids.length=nkids at *;obtain⟨P,hP⟩:∃P,P=w.heap.size:=⟨_,rfl⟩;go_enter Tryz.func106,Tryz.ntmps106;go_upto_region 1 with fail
 rw[←hP] at HB ⊢;clear hP;generalize w.alloc (.cells #[.int .i64 5,.string ⟨nm.toArray⟩,.string ⟨tx.toArray⟩,.slice a3 npre c3,.slice a4 nsp c4,.slice a5 nns c5,.slice a6 nkids c6,.int .i64 cp] 60)=W at *;obtain⟨q0,q1,q2,q3,q4,q5,q6,q7⟩:=ld8 HB.out;go_upto_region 2 with(first|(go_at_call 137;refine DX.out.mono ?_;rintro e w1 ⟨rfl,x1⟩;have X1:=qaa x1;clear x1)|(go_at_call 65;refine(HM.out _).mono ?_;rintro e w2 ⟨rfl,hw⟩;have hw2:=hw.symm;clear hw;subst hw2))
 clear q0 q1 q2 q3 q4 q5 q6 q7 DX hde;have HB1:=qaa ((X1.out.block P (Yd HB.out)).trans HB.out);have R1:=qaa (RW.out.below X1.out);have Dc:=qaa (DI.out.below X1.out);have DZ:=qaa (bt XW.out X1.out Yi);clear HB RW DI XW X1;have q0:w1.cell? ⟨P,0,none⟩=some (.int .i64 5):=by rw[Ye _ _ _ _ _ _ HB1.out];rfl
 go_upto_region 3 with(go_at_call 138;refine(HH.out _).mono ?_;rintro e w2 ⟨rfl,x2⟩;have X2:=qaa x2;clear x2)
 clear q0;have HB2:=qaa ((X2.out.block P (Yd HB1.out)).trans HB1.out);have R2:=qaa (R1.out.below X2.out);have BH:=qaa (Dc.out.below X2.out);have Da:=qaa (KpO.of_below (base:=base) (wp:=wp) (bt DZ.out X2.out Yi));clear HB1 R1 Dc DZ X2 HH;by_cases hbr:1<place
 ·rw[if_pos hbr] at ha hx
  have hbi:(1:Int)<(place:Int):=by omega
  have HO:=qaa (qbh R2.out ha);have HF:=qaa (fun V (r:WrA V base wp b.1 b.2)=>qbh r hx);clear ha hx hbr;go_upto_region 5 with(go_at_call 105;refine HO.out.mono ?_;rintro e w3 ⟨rfl,r3,x3⟩;have R3:=qaa r3;have X3:=qaa x3;clear r3 x3)
  have HB3:=qaa (X3.out.box HB2.out (by decide) (R2.out.ne HB2.out (by decide)));have Dv:=qaa (BH.out.kpo R2.out X3.out);have DJ:=qaa (Da.out.trans X3.out);clear HB2 R2 BH Da X3 HO;have q0:w3.cell? ⟨P,0,none⟩=some (.int .i64 5):=by rw[Ye _ _ _ _ _ _ HB3.out];rfl
  go_upto_region 11 with fail
  have XD:Hid (Below w3.heap.size w3 w3.drew):=Yj.drew;have HQ:Hid (∀V,Below w3.heap.size w3 V→V.cell? ⟨P,0,none⟩=some (.int .i64 5)∧V.cell? ⟨P,1,none⟩=some (.string ⟨nm.toArray⟩)∧V.cell? ⟨P,2,none⟩=some (.string ⟨tx.toArray⟩)∧V.cell? ⟨P,3,none⟩=some (.slice a3 npre c3)∧V.cell? ⟨P,4,none⟩=some (.slice a4 nsp c4)∧V.cell? ⟨P,5,none⟩=some (.slice a5 nns c5)∧V.cell? ⟨P,6,none⟩=some (.slice a6 nkids c6)∧V.cell? ⟨P,7,none⟩=some (.int .i64 cp)):=fun V y=>ld8 ((y.block P (Yd HB3.out)).trans HB3.out)
  have Gm:=qaa qaq;have hix:=qte;clear q0;refine qam (S:=fun V=>Below w3.heap.size w3 V) 6 (by kernel_rfl) ?_;refine qac.tk 0 rfl 42 XD.out (fun a b=>by obtain⟨_,_,_,_,_,_,_,_⟩:=HQ.out a b;go_simp;first|done|rfl) ?_
  try simp only[Act.put,Ya,Yb,Yc]
  refine qac.tk 1 rfl 43 XD.out (fun a b=>by obtain⟨_,_,_,_,_,_,_,_⟩:=HQ.out a b;go_simp;first|done|rfl) ?_
  try simp only[Act.put,Ya,Yb,Yc]
  refine qac.tk 3 rfl 45 XD.out (fun a b=>by obtain⟨_,_,_,_,_,_,_,_⟩:=HQ.out a b;go_simp;first|done|rfl) ?_
  try simp only[Act.put,Ya,Yb,Yc]
  refine qac.tk 5 rfl 47 XD.out (fun a b=>by obtain⟨_,_,_,_,_,_,_,_⟩:=HQ.out a b;go_simp;first|done|rfl) ?_
  try simp only[Act.put,Ya,Yb,Yc]
  refine qac.stq 2 rfl fun K hK=>?_
  go_simp;refine(Gm.out _).mono ?_;rintro e w4 ⟨rfl,x4⟩;have X4:Hid (Below w3.heap.size w3 w4):=bt XD.out x4 Yi;refine hK _ _ X4.out ?_;clear hK K x4
  try simp only[Act.put,Ya,Yb,Yc]
  refine qac.tk 4 rfl 46 X4.out (fun a b=>by obtain⟨_,_,_,_,_,_,_,_⟩:=HQ.out a b;go_simp;first|done|rfl) ?_
  try simp only[Act.put,Ya,Yb,Yc]
  have Dn:=qaa (Ex.out _ (R3.out.below X4.out) (Dv.out.below X4.out));refine qac.lst rfl fun K hK=>?_
  go_simp;refine Dn.out.mono ?_;rintro e w5 ⟨rfl,r5,x5⟩;refine hK _ _ ?_;have R5:=qaa r5;have X5:=qaa ((KpO.of_below (base:=base) (wp:=wp) X4.out).trans x5);clear hK K r5 x5 Dn hix;go_wp2_with (go_at_call 105;refine(HF.out _ R5.out).mono ?_;rintro e w6 ⟨rfl,r6,x6⟩;have R6:=qaa r6;have X6:=qaa x6;clear r6 x6);go_end0;exact⟨rfl,R6.out,DJ.out.trans (X5.out.trans X6.out)⟩
 ·rw[if_neg hbr] at ha hx
  have hbi:¬(1:Int)<(place:Int):=by omega
  obtain rfl:=Option.some.inj ha;obtain rfl:=Option.some.inj hx;clear ha hx hbr;have R3:=qaa R2.out;have HB3:=qaa HB2.out;have Dv:=qaa BH.out;have DJ:=qaa Da.out;clear R2 HB2 BH Da;go_upto_region 5 with fail
  have q0:w2.cell? ⟨P,0,none⟩=some (.int .i64 5):=by rw[Ye _ _ _ _ _ _ HB3.out];rfl
  go_upto_region 11 with fail
  have XD:Hid (Below w2.heap.size w2 w2.drew):=Yj.drew;have HQ:Hid (∀V,Below w2.heap.size w2 V→V.cell? ⟨P,0,none⟩=some (.int .i64 5)∧V.cell? ⟨P,1,none⟩=some (.string ⟨nm.toArray⟩)∧V.cell? ⟨P,2,none⟩=some (.string ⟨tx.toArray⟩)∧V.cell? ⟨P,3,none⟩=some (.slice a3 npre c3)∧V.cell? ⟨P,4,none⟩=some (.slice a4 nsp c4)∧V.cell? ⟨P,5,none⟩=some (.slice a5 nns c5)∧V.cell? ⟨P,6,none⟩=some (.slice a6 nkids c6)∧V.cell? ⟨P,7,none⟩=some (.int .i64 cp)):=fun V y=>ld8 ((y.block P (Yd HB3.out)).trans HB3.out)
  have Gm:=qaa qaq;have hix:=qte;clear q0;refine qam (S:=fun V=>Below w2.heap.size w2 V) 6 (by kernel_rfl) ?_;refine qac.tk 0 rfl 42 XD.out (fun a b=>by obtain⟨_,_,_,_,_,_,_,_⟩:=HQ.out a b;go_simp;first|done|rfl) ?_
  try simp only[Act.put,Ya,Yb,Yc]
  refine qac.tk 1 rfl 43 XD.out (fun a b=>by obtain⟨_,_,_,_,_,_,_,_⟩:=HQ.out a b;go_simp;first|done|rfl) ?_
  try simp only[Act.put,Ya,Yb,Yc]
  refine qac.tk 3 rfl 45 XD.out (fun a b=>by obtain⟨_,_,_,_,_,_,_,_⟩:=HQ.out a b;go_simp;first|done|rfl) ?_
  try simp only[Act.put,Ya,Yb,Yc]
  refine qac.tk 5 rfl 47 XD.out (fun a b=>by obtain⟨_,_,_,_,_,_,_,_⟩:=HQ.out a b;go_simp;first|done|rfl) ?_
  try simp only[Act.put,Ya,Yb,Yc]
  refine qac.stq 2 rfl fun K hK=>?_
  go_simp;refine(Gm.out _).mono ?_;rintro e w4 ⟨rfl,x4⟩;have X4:Hid (Below w2.heap.size w2 w4):=bt XD.out x4 Yi;refine hK _ _ X4.out ?_;clear hK K x4
  try simp only[Act.put,Ya,Yb,Yc]
  refine qac.tk 4 rfl 46 X4.out (fun a b=>by obtain⟨_,_,_,_,_,_,_,_⟩:=HQ.out a b;go_simp;first|done|rfl) ?_
  try simp only[Act.put,Ya,Yb,Yc]
  have Dn:=qaa (Ex.out _ (R3.out.below X4.out) (Dv.out.below X4.out));refine qac.lst rfl fun K hK=>?_
  go_simp;refine Dn.out.mono ?_;rintro e w5 ⟨rfl,r5,x5⟩;refine hK _ _ ?_;have R5:=qaa r5;have X5:=qaa ((KpO.of_below (base:=base) (wp:=wp) X4.out).trans x5);clear hK K r5 x5 Dn hix;go_wp2;go_end0;exact⟨rfl,R5.out,DJ.out.trans X5.out⟩
theorem qrc {w:World} {base wp b0 deep place:Nat} {c:CT} {vs:List Value} {bs:List Nat} {s x:WS} {M:WS→Option WS} (hk:c.k=6) (hdp:deep≤16) (hp:place≤3) (Bj:NoM c) (h:WrA w base wp s.1 s.2) (hc:qaj w b0 c vs bs)
 (hM:∀(V:World) (a b:WS),WrA V base wp a.1 a.2→qaj V b0 c vs bs→M a=some b→Calls Tryz.prog 140 #[.pointer (some ⟨wp,0,none⟩),.agg vs.toArray,.agg #[.string ⟨#[111,114]⟩,.int .i64 6,.int .i64 1],.int .i64 (deep:Nat)] V (qbz base wp V b))
 (hx0:((if 0<place then qe4 [40] s else some s).bind fun a=>(M a).bind fun b=>if 0<place then qe4 [41] b else some b)=some x):
 Calls Tryz.prog 106 #[.pointer (some ⟨wp,0,none⟩),.agg vs.toArray,.int .i64 (place:Nat),.int .i64 (deep:Nat)] w (qbz base wp w x):=by
 obtain⟨a,ha,hx1⟩:=Option.bind_eq_some_iff.1 hx0;obtain⟨b,hb,hx⟩:=Option.bind_eq_some_iff.1 hx1;clear hx0 hx1;have Dr:=qaa (fun V (y:Below w.heap.size w V)=>qd4 (hc.below y) Bj);have BV:=qaa hc;obtain⟨a3,c3,a4,c4,a5,c5,a6,c6,rfl⟩:=hc.eight;rw[hk] at Dr BV hM ⊢;have XW:=qaa (show Below w.heap.size w (w.alloc (.cells #[.int .i64 6,.string ⟨c.nm.toArray⟩,.string ⟨c.tx.toArray⟩,.slice a3 c.pre.length c3,.slice a4 c.sp.length c4,.slice a5 c.ns.length c5,.slice a6 c.kids.length c6,.int .i64 c.p] 60)) from al Yj _);have HB:=qaa (Yh w (.cells #[.int .i64 6,.string ⟨c.nm.toArray⟩,.string ⟨c.tx.toArray⟩,.slice a3 c.pre.length c3,.slice a4 c.sp.length c4,.slice a5 c.ns.length c5,.slice a6 c.kids.length c6,.int .i64 c.p] 60));have Ex:=qaa (fun V r k=>hM V a b r k hb);have RW:=qaa (h.below XW.out);have DI:=qaa (BV.out.below XW.out);have DX:=qaa (Dr.out _ XW.out);have HM:=qaa qbn;have HH:Hid (∀V,Calls Tryz.prog 138 #[.int .i64 6] V fun e w'=>e=.returned (.int .i64 0)∧Below V.heap.size V w'):=fun V=>qcp 6 V
 have hde:(deep:Int)≤16:=by omega
 clear hc Bj hM hb h BV Dr hdp;generalize c.nm=nm at *;generalize c.tx=tx at *;generalize c.p=cp at *;generalize c.pre.length=npre at *;generalize c.sp.length=nsp at *;generalize c.ns.length=nns at *;generalize c.kids.length=nkids at *;obtain⟨P,hP⟩:∃P,P=w.heap.size:=⟨_,rfl⟩;go_enter Tryz.func106,Tryz.ntmps106;go_upto_region 1 with fail
 rw[←hP] at HB ⊢;clear hP;generalize w.alloc (.cells #[.int .i64 6,.string ⟨nm.toArray⟩,.string ⟨tx.toArray⟩,.slice a3 npre c3,.slice a4 nsp c4,.slice a5 nns c5,.slice a6 nkids c6,.int .i64 cp] 60)=W at *;obtain⟨q0,q1,q2,q3,q4,q5,q6,q7⟩:=ld8 HB.out;go_upto_region 2 with(first|(go_at_call 137;refine DX.out.mono ?_;rintro e w1 ⟨rfl,x1⟩;have X1:=qaa x1;clear x1)|(go_at_call 65;refine(HM.out _).mono ?_;rintro e w2 ⟨rfl,hw⟩;have hw2:=hw.symm;clear hw;subst hw2))
 clear q0 q1 q2 q3 q4 q5 q6 q7 DX hde;have HB1:=qaa ((X1.out.block P (Yd HB.out)).trans HB.out);have R1:=qaa (RW.out.below X1.out);have Dc:=qaa (DI.out.below X1.out);have DZ:=qaa (bt XW.out X1.out Yi);clear HB RW DI XW X1;have q0:w1.cell? ⟨P,0,none⟩=some (.int .i64 6):=by rw[Ye _ _ _ _ _ _ HB1.out];rfl
 go_upto_region 3 with(go_at_call 138;refine(HH.out _).mono ?_;rintro e w2 ⟨rfl,x2⟩;have X2:=qaa x2;clear x2)
 clear q0;have HB2:=qaa ((X2.out.block P (Yd HB1.out)).trans HB1.out);have R2:=qaa (R1.out.below X2.out);have BH:=qaa (Dc.out.below X2.out);have Da:=qaa (KpO.of_below (base:=base) (wp:=wp) (bt DZ.out X2.out Yi));clear HB1 R1 Dc DZ X2 HH;by_cases hbr:0<place
 ·rw[if_pos hbr] at ha hx
  have hbi:(0:Int)<(place:Int):=by omega
  have HO:=qaa (qbh R2.out ha);have HF:=qaa (fun V (r:WrA V base wp b.1 b.2)=>qbh r hx);clear ha hx hbr;go_upto_region 5 with(go_at_call 105;refine HO.out.mono ?_;rintro e w3 ⟨rfl,r3,x3⟩;have R3:=qaa r3;have X3:=qaa x3;clear r3 x3)
  have HB3:=qaa (X3.out.box HB2.out (by decide) (R2.out.ne HB2.out (by decide)));have Dv:=qaa (BH.out.kpo R2.out X3.out);have DJ:=qaa (Da.out.trans X3.out);clear HB2 R2 BH Da X3 HO;have q0:w3.cell? ⟨P,0,none⟩=some (.int .i64 6):=by rw[Ye _ _ _ _ _ _ HB3.out];rfl
  go_upto_region 11 with fail
  have XD:Hid (Below w3.heap.size w3 w3.drew):=Yj.drew;have HQ:Hid (∀V,Below w3.heap.size w3 V→V.cell? ⟨P,0,none⟩=some (.int .i64 6)∧V.cell? ⟨P,1,none⟩=some (.string ⟨nm.toArray⟩)∧V.cell? ⟨P,2,none⟩=some (.string ⟨tx.toArray⟩)∧V.cell? ⟨P,3,none⟩=some (.slice a3 npre c3)∧V.cell? ⟨P,4,none⟩=some (.slice a4 nsp c4)∧V.cell? ⟨P,5,none⟩=some (.slice a5 nns c5)∧V.cell? ⟨P,6,none⟩=some (.slice a6 nkids c6)∧V.cell? ⟨P,7,none⟩=some (.int .i64 cp)):=fun V y=>ld8 ((y.block P (Yd HB3.out)).trans HB3.out)
  have Gm:=qaa qaq;have hix:=qtd;clear q0;refine qam (S:=fun V=>Below w3.heap.size w3 V) 6 (by kernel_rfl) ?_;refine qac.tk 0 rfl 42 XD.out (fun a b=>by obtain⟨_,_,_,_,_,_,_,_⟩:=HQ.out a b;go_simp;first|done|rfl) ?_
  try simp only[Act.put,Ya,Yb,Yc]
  refine qac.tk 1 rfl 43 XD.out (fun a b=>by obtain⟨_,_,_,_,_,_,_,_⟩:=HQ.out a b;go_simp;first|done|rfl) ?_
  try simp only[Act.put,Ya,Yb,Yc]
  refine qac.tk 3 rfl 45 XD.out (fun a b=>by obtain⟨_,_,_,_,_,_,_,_⟩:=HQ.out a b;go_simp;first|done|rfl) ?_
  try simp only[Act.put,Ya,Yb,Yc]
  refine qac.tk 5 rfl 47 XD.out (fun a b=>by obtain⟨_,_,_,_,_,_,_,_⟩:=HQ.out a b;go_simp;first|done|rfl) ?_
  try simp only[Act.put,Ya,Yb,Yc]
  refine qac.stq 2 rfl fun K hK=>?_
  go_simp;refine(Gm.out _).mono ?_;rintro e w4 ⟨rfl,x4⟩;have X4:Hid (Below w3.heap.size w3 w4):=bt XD.out x4 Yi;refine hK _ _ X4.out ?_;clear hK K x4
  try simp only[Act.put,Ya,Yb,Yc]
  refine qac.tk 4 rfl 46 X4.out (fun a b=>by obtain⟨_,_,_,_,_,_,_,_⟩:=HQ.out a b;go_simp;first|done|rfl) ?_
  try simp only[Act.put,Ya,Yb,Yc]
  have Dn:=qaa (Ex.out _ (R3.out.below X4.out) (Dv.out.below X4.out));refine qac.lst rfl fun K hK=>?_
  go_simp;refine Dn.out.mono ?_;rintro e w5 ⟨rfl,r5,x5⟩;refine hK _ _ ?_;have R5:=qaa r5;have X5:=qaa ((KpO.of_below (base:=base) (wp:=wp) X4.out).trans x5);clear hK K r5 x5 Dn hix;go_wp2_with (go_at_call 105;refine(HF.out _ R5.out).mono ?_;rintro e w6 ⟨rfl,r6,x6⟩;have R6:=qaa r6;have X6:=qaa x6;clear r6 x6);go_end0;exact⟨rfl,R6.out,DJ.out.trans (X5.out.trans X6.out)⟩
 ·rw[if_neg hbr] at ha hx
  have hbi:¬(0:Int)<(place:Int):=by omega
  obtain rfl:=Option.some.inj ha;obtain rfl:=Option.some.inj hx;clear ha hx hbr;have R3:=qaa R2.out;have HB3:=qaa HB2.out;have Dv:=qaa BH.out;have DJ:=qaa Da.out;clear R2 HB2 BH Da;go_upto_region 5 with fail
  have q0:w2.cell? ⟨P,0,none⟩=some (.int .i64 6):=by rw[Ye _ _ _ _ _ _ HB3.out];rfl
  go_upto_region 11 with fail
  have XD:Hid (Below w2.heap.size w2 w2.drew):=Yj.drew;have HQ:Hid (∀V,Below w2.heap.size w2 V→V.cell? ⟨P,0,none⟩=some (.int .i64 6)∧V.cell? ⟨P,1,none⟩=some (.string ⟨nm.toArray⟩)∧V.cell? ⟨P,2,none⟩=some (.string ⟨tx.toArray⟩)∧V.cell? ⟨P,3,none⟩=some (.slice a3 npre c3)∧V.cell? ⟨P,4,none⟩=some (.slice a4 nsp c4)∧V.cell? ⟨P,5,none⟩=some (.slice a5 nns c5)∧V.cell? ⟨P,6,none⟩=some (.slice a6 nkids c6)∧V.cell? ⟨P,7,none⟩=some (.int .i64 cp)):=fun V y=>ld8 ((y.block P (Yd HB3.out)).trans HB3.out)
  have Gm:=qaa qaq;have hix:=qtd;clear q0;refine qam (S:=fun V=>Below w2.heap.size w2 V) 6 (by kernel_rfl) ?_;refine qac.tk 0 rfl 42 XD.out (fun a b=>by obtain⟨_,_,_,_,_,_,_,_⟩:=HQ.out a b;go_simp;first|done|rfl) ?_
  try simp only[Act.put,Ya,Yb,Yc]
  refine qac.tk 1 rfl 43 XD.out (fun a b=>by obtain⟨_,_,_,_,_,_,_,_⟩:=HQ.out a b;go_simp;first|done|rfl) ?_
  try simp only[Act.put,Ya,Yb,Yc]
  refine qac.tk 3 rfl 45 XD.out (fun a b=>by obtain⟨_,_,_,_,_,_,_,_⟩:=HQ.out a b;go_simp;first|done|rfl) ?_
  try simp only[Act.put,Ya,Yb,Yc]
  refine qac.tk 5 rfl 47 XD.out (fun a b=>by obtain⟨_,_,_,_,_,_,_,_⟩:=HQ.out a b;go_simp;first|done|rfl) ?_
  try simp only[Act.put,Ya,Yb,Yc]
  refine qac.stq 2 rfl fun K hK=>?_
  go_simp;refine(Gm.out _).mono ?_;rintro e w4 ⟨rfl,x4⟩;have X4:Hid (Below w2.heap.size w2 w4):=bt XD.out x4 Yi;refine hK _ _ X4.out ?_;clear hK K x4
  try simp only[Act.put,Ya,Yb,Yc]
  refine qac.tk 4 rfl 46 X4.out (fun a b=>by obtain⟨_,_,_,_,_,_,_,_⟩:=HQ.out a b;go_simp;first|done|rfl) ?_
  try simp only[Act.put,Ya,Yb,Yc]
  have Dn:=qaa (Ex.out _ (R3.out.below X4.out) (Dv.out.below X4.out));refine qac.lst rfl fun K hK=>?_
  go_simp;refine Dn.out.mono ?_;rintro e w5 ⟨rfl,r5,x5⟩;refine hK _ _ ?_;have R5:=qaa r5;have X5:=qaa ((KpO.of_below (base:=base) (wp:=wp) X4.out).trans x5);clear hK K r5 x5 Dn hix;go_wp2;go_end0;exact⟨rfl,R5.out,DJ.out.trans X5.out⟩
theorem qnb {w:World} {base wp b0 deep place:Nat} {c:CT} {vs:List Value} {bs:List Nat} {s x:WS} {M:WS→Option WS} (hk:c.k=8) (hdp:deep≤16) (hp:place≤3) (Bj:NoM c) (h:WrA w base wp s.1 s.2) (hc:qaj w b0 c vs bs)
 (hM:∀(V:World) (a b:WS),WrA V base wp a.1 a.2→qaj V b0 c vs bs→M a=some b→Calls Tryz.prog 141 #[.pointer (some ⟨wp,0,none⟩),.agg vs.toArray] V (qbz base wp V b))
 (hx0:((if 3<place then qe4 [40] s else some s).bind fun a=>(M a).bind fun b=>if 3<place then qe4 [41] b else some b)=some x):
 Calls Tryz.prog 106 #[.pointer (some ⟨wp,0,none⟩),.agg vs.toArray,.int .i64 (place:Nat),.int .i64 (deep:Nat)] w (qbz base wp w x):=by
 obtain⟨a,ha,hx1⟩:=Option.bind_eq_some_iff.1 hx0;obtain⟨b,hb,hx⟩:=Option.bind_eq_some_iff.1 hx1;clear hx0 hx1;have Dr:=qaa (fun V (y:Below w.heap.size w V)=>qd4 (hc.below y) Bj);have BV:=qaa hc;obtain⟨a3,c3,a4,c4,a5,c5,a6,c6,rfl⟩:=hc.eight;rw[hk] at Dr BV hM ⊢;have XW:=qaa (show Below w.heap.size w (w.alloc (.cells #[.int .i64 8,.string ⟨c.nm.toArray⟩,.string ⟨c.tx.toArray⟩,.slice a3 c.pre.length c3,.slice a4 c.sp.length c4,.slice a5 c.ns.length c5,.slice a6 c.kids.length c6,.int .i64 c.p] 60)) from al Yj _);have HB:=qaa (Yh w (.cells #[.int .i64 8,.string ⟨c.nm.toArray⟩,.string ⟨c.tx.toArray⟩,.slice a3 c.pre.length c3,.slice a4 c.sp.length c4,.slice a5 c.ns.length c5,.slice a6 c.kids.length c6,.int .i64 c.p] 60));have Ex:=qaa (fun V r k=>hM V a b r k hb);have RW:=qaa (h.below XW.out);have DI:=qaa (BV.out.below XW.out);have DX:=qaa (Dr.out _ XW.out);have HM:=qaa qbn;have HH:Hid (∀V,Calls Tryz.prog 138 #[.int .i64 8] V fun e w'=>e=.returned (.int .i64 3)∧Below V.heap.size V w'):=fun V=>qcp 8 V
 have hde:(deep:Int)≤16:=by omega
 clear hc Bj hM hb h BV Dr hdp;generalize c.nm=nm at *;generalize c.tx=tx at *;generalize c.p=cp at *;generalize c.pre.length=npre at *;generalize c.sp.length=nsp at *;generalize c.ns.length=nns at *;generalize c.kids.length=nkids at *;obtain⟨P,hP⟩:∃P,P=w.heap.size:=⟨_,rfl⟩;go_enter Tryz.func106,Tryz.ntmps106;go_upto_region 1 with fail
 rw[←hP] at HB ⊢;clear hP;generalize w.alloc (.cells #[.int .i64 8,.string ⟨nm.toArray⟩,.string ⟨tx.toArray⟩,.slice a3 npre c3,.slice a4 nsp c4,.slice a5 nns c5,.slice a6 nkids c6,.int .i64 cp] 60)=W at *;obtain⟨q0,q1,q2,q3,q4,q5,q6,q7⟩:=ld8 HB.out;go_upto_region 2 with(first|(go_at_call 137;refine DX.out.mono ?_;rintro e w1 ⟨rfl,x1⟩;have X1:=qaa x1;clear x1)|(go_at_call 65;refine(HM.out _).mono ?_;rintro e w2 ⟨rfl,hw⟩;have hw2:=hw.symm;clear hw;subst hw2))
 clear q0 q1 q2 q3 q4 q5 q6 q7 DX hde;have HB1:=qaa ((X1.out.block P (Yd HB.out)).trans HB.out);have R1:=qaa (RW.out.below X1.out);have Dc:=qaa (DI.out.below X1.out);have DZ:=qaa (bt XW.out X1.out Yi);clear HB RW DI XW X1;have q0:w1.cell? ⟨P,0,none⟩=some (.int .i64 8):=by rw[Ye _ _ _ _ _ _ HB1.out];rfl
 go_upto_region 3 with(go_at_call 138;refine(HH.out _).mono ?_;rintro e w2 ⟨rfl,x2⟩;have X2:=qaa x2;clear x2)
 clear q0;have HB2:=qaa ((X2.out.block P (Yd HB1.out)).trans HB1.out);have R2:=qaa (R1.out.below X2.out);have BH:=qaa (Dc.out.below X2.out);have Da:=qaa (KpO.of_below (base:=base) (wp:=wp) (bt DZ.out X2.out Yi));clear HB1 R1 Dc DZ X2 HH;by_cases hbr:3<place
 ·exact absurd hbr (by omega)
 ·rw[if_neg hbr] at ha hx
  have hbi:¬(3:Int)<(place:Int):=by omega
  obtain rfl:=Option.some.inj ha;obtain rfl:=Option.some.inj hx;clear ha hx hbr;have R3:=qaa R2.out;have HB3:=qaa HB2.out;have Dv:=qaa BH.out;have DJ:=qaa Da.out;clear R2 HB2 BH Da;go_upto_region 5 with fail
  obtain⟨q0,q1,q2,q3,q4,q5,q6,q7⟩:=ld8 HB3.out;have Dn:=qaa (Ex.out _ R3.out Dv.out);go_upto_region 14 with(go_at_call 141;refine Dn.out.mono ?_;rintro e w5 ⟨rfl,r5,x5⟩;have R5:=qaa r5;have X5:=qaa x5;clear r5 x5)
  clear q0 q1 q2 q3 q4 q5 q6 q7 Dn;go_wp2;go_end0;exact⟨rfl,R5.out,DJ.out.trans X5.out⟩
end Go.Proofs.YtlmhofjiobmodaaGreatDoor

