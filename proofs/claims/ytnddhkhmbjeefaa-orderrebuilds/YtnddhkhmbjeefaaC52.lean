/-
  OrderRebuilds, walked: any arena, any roots, any order. Conditions: arguments that a machine can hold.
-/
import Derived.Deep.DeepCutAuto
import Derived.Deep.CutBlock
import Derived.Test.YtnddhkhmbjeefaaC50
import Derived.Test.YtnddhkhmbjeefaaC38
import Derived.Test.YtnddhkhmbjeefaaC51
import Derived.Test.YtnddhkhmbjeefaaRows
import Derived.Deep.Slices
import Derived.SizedLaws
import Derived.WideShapes
import Derived.ChangeShapes
import Derived.Test.YtnddhkhmbjeefaaC32
namespace Go.Proofs.Ytnddhkhmbjeefaa
open Go.RowKit Go.Lib Go.Maps
section
variable {w:World} {ao no ro qo po yo:Option Addr} {A Rt qs raw by_:List Int} {Ns:List RW} {most:Int}
set_option maxRecDepth 100000 in
set_option maxHeartbeats 8000000 in
theorem orderRebuilds_any (c1 c2 c3 pc qc yc:Nat) (h:MdA w ao A no Ns ro Rt) (hp:ZAt w po raw) (fr:∀c∈raw,Fit c) (lp:raw.length≤140737488351232) (fm:Fit most) (hq:ZAt w qo qs) (lq:qs.length≤140737488351232) (hy:ZAt w yo by_) (ly:by_.length≤140737488351232):
 Calls Try.prog 3 #[.agg #[.slice ao A.length c1,.slice no Ns.length c2,.slice ro Rt.length c3],.slice po raw.length pc,.int .i64 most,.slice qo qs.length qc,.slice yo by_.length yc] w fun e w'=>e=.returned (.bool true)∧Below w.heap.size w w':=by
 have HP0:=hide hp
 have HQ0:=hide hq
 have HY0:=hide hy
 have HFR:=hide fr
 have HFM:=hide fm
 clear hp hq hy fr fm
 have X1:Hid (Below w.heap.size w (w.alloc (.cells #[.slice ao A.length c1,.slice no Ns.length c2,.slice ro Rt.length c3] 25))):=al (Below.refl _ _) _
 have B1:Hid ((w.alloc (.cells #[.slice ao A.length c1,.slice no Ns.length c2,.slice ro Rt.length c3] 25)).heap[w.heap.size]? =some (.cells #[.slice ao A.length c1,.slice no Ns.length c2,.slice ro Rt.length c3] 25 (0,0))):=heap_alloc_new w _
 have HM:=hide (h.below X1.out)
 have hla:=h.la
 have hln:=h.ln
 have hlr:=h.lr
 clear h
 go_enter Try.func3,Try.ntmps3
 go_upto_region 1 with fail
 generalize w.alloc (.cells #[.slice ao A.length c1,.slice no Ns.length c2,.slice ro Rt.length c3] 25)=w1 at *
 have BX:Hid (∀V,Below w1.heap.size w1 V→V.cell? ⟨w.heap.size,0,none⟩=some (.slice ao A.length c1)∧V.cell? ⟨w.heap.size,1,none⟩=some (.slice no Ns.length c2)∧V.cell? ⟨w.heap.size,2,none⟩=some (.slice ro Rt.length c3)):=fun V hV=>by
  have b:=(hV.block _ (lt_of_obj B1.out)).trans B1.out
  exact⟨by rw[cell_of_row V _ _ _ _ _ b];rfl,by rw[cell_of_row V _ _ _ _ _ b];rfl,by rw[cell_of_row V _ _ _ _ _ b];rfl⟩
 obtain⟨q0,q1,q2⟩:=BX.out w1 (Below.refl _ _)
 have SZ:=hide (size_any (w:=w1) ao no ro A.length c1 c2 Rt.length c3 Ns HM.out.zn hla hln hlr)
 have A1:Hid (∀V:World,Calls Try.prog 6 #[.int .i64 (qs.length:Int),.int .i64 (by_.length:Int)] V fun e w'=>(∃s,e=.returned (.int .i64 s)∧0≤s∧s≤2147483648∧(s≤2147483647→s=(qs.length:Int)+by_.length))∧w'=V):=fun V=>addX_any (w:=V) _ _ (by omega) (by omega) (by omega) (by omega)
 have A2:Hid (∀(V:World) (s:Int),0≤s→s≤2147483648→Calls Try.prog 6 #[.int .i64 (raw.length:Int),.int .i64 s] V fun e w'=>(∃r,e=.returned (.int .i64 r)∧0≤r∧r≤2147483648∧(r≤2147483647→r=(raw.length:Int)+s))∧w'=V):=fun V s h1 h2=>addX_any (w:=V) _ _ (by omega) (by omega) h1 (by omega)
 go_upto_if 38 with(first
  |(go_at_call 7;refine SZ.out.mono ?_;clear SZ;rintro e w2 ⟨⟨s0,rfl,hs0,hs1⟩,x2⟩;have X2:=hide x2;clear x2)
  |(go_at_call 6;refine(A1.out _).mono ?_;clear A1;rintro e w3 ⟨⟨s1,rfl,hs2,hs3,hs4⟩,h⟩;rw[h];clear h;have HS4:=hide hs4;clear hs4)
  |(go_at_call 6;refine(A2.out _ s1 hs2 hs3).mono ?_;clear A2;rintro e w3 ⟨⟨s2,rfl,hs5,hs6,hs7⟩,h⟩;rw[h];clear h;have HS7:=hide hs7;clear hs7;obtain⟨t0,hmin,ht1,ht2,ht3⟩:=min_run s2 2147483647;have ht4:0≤t0:=(by rcases ht3 with e|e<;>omega);have HT:=hide ht3;clear ht3;have em:IntKind.i64.wrap (10*t0)=10*t0:=(by simp[IntKind.wrap,IntKind.bits,IntKind.signed];omega))
  |(go_at_call 6;refine(addX_any s0 (10*t0) hs0 (by omega) (by omega) (by omega)).mono ?_;rintro e w3 ⟨⟨s3,rfl,hs8,hs9,hs10⟩,h⟩;rw[h];clear h;have HS10:=hide hs10;clear hs10))
 clear hmin em q0 q1 q2
 by_cases hsm:2147483647<s3
 ·clear hs0 hs1 ht1 ht2 ht4 hs2 hs3 hs5 hs6 hs8 hs9
  go_wp2
  go_ret
  exact⟨rfl,bt X1.out X2.out (Nat.le_refl _)⟩
 have hsm':s3≤2147483647:=by omega
 obtain⟨hpl,hql,hyl⟩:raw.length≤214748364∧qs.length≤214748364∧by_.length≤214748364:=by
  have h1:=HS10.out hsm'
  have h2:s2≤214748364:=by rcases HT.out with e|e<;>omega
  have h3:=HS7.out (by omega)
  have h4:=HS4.out (by omega)
  omega
 clear HS4 HS7 HS10 HT hs0 hs1 ht1 ht2 ht4 hs2 hs3 hs5 hs6 hs8 hs9
 go_upto_region 4 with(go_at_call 8;refine(awake_any _).mono ?_;rintro e w4 ⟨rfl,x4⟩;have X4:=hide x4;clear x4)
 have Y4:=hide (bt X2.out X4.out (Nat.le_refl _))
 clear X2 X4
 obtain⟨q0,q1,q2⟩:=BX.out w4 Y4.out
 have MDC:=hide (made_any c1 c2 c3 (HM.out.below Y4.out))
 go_upto_region 7 with(go_at_call 9;refine MDC.out.mono ?_;rintro e w5 ⟨bb,a,x,so,bc,S,N,rs,rfl,hbx,hra,hn4,x5⟩;have HB:Hid (BoY w5 bb a x so bc S N rs):=⟨hbx,hra,hn4⟩;have X5:=hide (bt X1.out (bt Y4.out x5 (Nat.le_refl _)) (Nat.le_refl _));clear hbx hra hn4 x5)
 clear MDC q0 q1 q2 BX HM Y4 X1 B1
 have hS7:=HB.out.bx.ls
 have hS1:=HB.out.bx.ok.sz.ge
 have hrs:=HB.out.bx.few
 have HP5:Hid (ZAt w5 po raw):=HP0.out.below X5.out
 have HQ5:Hid (ZAt w5 qo qs):=HQ0.out.below X5.out
 have HY5:Hid (ZAt w5 yo by_):=HY0.out.below X5.out
 clear HP0 HQ0 HY0
 obtain⟨-,b1,-⟩:=HB.out.cells
 have SZD:Hid (Calls Try.prog 11 #[.pointer (some ⟨x,0,none⟩)] w5 fun e w'=>∃g c,e=.returned (.slice (some ⟨g,0,none⟩) S.length c)∧ZBk w' g S∧w5.heap.size≤g∧Below w5.heap.size w5 w'):=by
  obtain⟨Q,hr⟩:=HB.out.ra
  exact sizesD_any hr
 have PMC:Hid (∀V,Below w5.heap.size w5 V→Calls Try.prog 10 #[.slice po raw.length pc,.int .i64 (S.length:Int)] V fun e w'=>∃so c O,e=.returned (.slice so S.length c)∧O.length=S.length∧ZAt w' so O∧Below V.heap.size V w'):=fun V hV=>(permuted_any (w:=V) (raw:=raw) (n:=S.length) po pc (by omega) (HP5.out.below hV) HFR.out lp).mono (fun e w' ⟨so,co,O,h1,h2,_,_,h4⟩=>⟨so,co,O,h1,by have:=h2.1;simpa [zC] using this,own_zat h2,h4⟩)
 go_upto_region 8 with(first
  |(go_at_call 11;refine SZD.out.mono ?_;clear SZD;rintro e w6 ⟨sg,sc,rfl,_,_,x6⟩;have X6:=hide x6;clear x6)
  |(go_at_call 10;refine(PMC.out w6 X6.out).mono ?_;clear PMC;rintro e w7 ⟨oo,oc,o,rfl,hol,zo,x7⟩;have ZO7:=hide zo;have HOL:=hide hol;have Z57:=hide (bt X6.out x7 (Nat.le_refl _));clear zo hol x7))
 have HB7:=hide (HB.out.below Z57.out)
 have X7:=hide (bt X5.out Z57.out (Nat.le_refl _))
 have HQ7:=hide (HQ5.out.below Z57.out)
 have HY7:=hide (HY5.out.below Z57.out)
 clear HB b1 X6 HP5 HQ5 HY5 Z57 X5
 have REB:Hid (∀V qo qc (p:List Int) (k:Int),Below w7.heap.size w7 V→ZAt V qo p→p.length≤214748364→Calls Try.prog 13 #[.pointer (some ⟨bb,0,none⟩),.slice so rs.length bc,.slice qo p.length qc,.int .i64 k] V fun e w'=>e=.returned (.bool true)∧Below V.heap.size V w'):=fun V qo qc p k hV hz hl=>rebuilds_any (HB7.out.below hV) so qo bc qc (HB7.out.below hV).bx.rt (by omega) hz hl
 have REO:Hid (∀V (k:Int),Below w7.heap.size w7 V→Calls Try.prog 13 #[.pointer (some ⟨bb,0,none⟩),.slice so rs.length bc,.slice oo S.length oc,.int .i64 k] V fun e w'=>e=.returned (.bool true)∧Below V.heap.size V w'):=fun V k hV=>by
  have:=REB.out V oo oc o k hV (ZO7.out.below hV) (by rw[HOL.out];omega)
  rw[HOL.out] at this
  exact this
 have REQ:Hid (∀V (k:Int),Below w7.heap.size w7 V→Calls Try.prog 13 #[.pointer (some ⟨bb,0,none⟩),.slice qo qs.length qc,.slice oo S.length oc,.int .i64 k] V fun e w'=>e=.returned (.bool true)∧Below V.heap.size V w'):=fun V k hV=>by
  have:=rebuilds_any (o:=o) (most:=k) (HB7.out.below hV) qo oo qc oc (HQ7.out.below hV) hql (ZO7.out.below hV) (by rw[HOL.out];omega)
  rw[HOL.out] at this
  exact this
 have PER:Hid (∀V (n:Nat),n≤12→Calls Try.prog 10 #[.slice none 0 0,.int .i64 (n:Int)] V fun e w'=>∃so c O,e=.returned (.slice so n c)∧O.length=n∧ZAt w' so O∧Below V.heap.size V w'):=fun V n hn=>(permuted_any (w:=V) (raw:=[]) (n:=n) none 0 hn (.inl rfl) (fun c hc=>by cases hc) (Nat.zero_le _)).mono (fun e w' ⟨so,co,O,h1,h2,_,_,h4⟩=>⟨so,co,O,h1,by have:=h2.1;simpa [zC] using this,own_zat h2,h4⟩)
 have BC:Hid (∀V,Below w7.heap.size w7 V→V.cell? ⟨bb,2,none⟩=some (.slice so rs.length bc)):=fun V hV=>(HB7.out.below hV).cells.2.2
 clear HB7 ZO7 HOL HQ7
 go_upto_region 9 with(go_at_call 12;refine(rebuildN_any (w:=w7) _ _ _).mono ?_;rintro e w8 ⟨rfl,h⟩;rw[h];clear h)
 have b2:=BC.out w7 (Below.refl _ _)
 have R1:=hide (REO.out w7 most (Below.refl _ _))
 go_upto_region 10 with(go_at_call 13;refine R1.out.mono ?_;clear R1;rintro e w8 ⟨rfl,x8⟩;have Y8:=hide x8;clear x8)
 clear b2
 have R1:=hide (REQ.out w8 8192 Y8.out)
 go_upto_region 11 with(go_at_call 13;refine R1.out.mono ?_;clear R1;rintro e w9 ⟨rfl,x9⟩;have Y9:=hide (bt Y8.out x9 (Nat.le_refl _));clear x9)
 have b2:=BC.out w9 Y9.out
 have R1:=hide (REB.out w9 yo yc by_ 8192 Y9.out (HY7.out.below Y9.out) hyl)
 go_upto_region 12 with(go_at_call 13;refine R1.out.mono ?_;clear R1;rintro e w10 ⟨rfl,x10⟩;have Y10:=hide (bt Y9.out x10 (Nat.le_refl _));clear x10)
 clear b2 Y8 Y9 HY7 REQ
 have XD:Hid (Below w7.heap.size w7 w10.drew):=(bt Y10.out (Below.refl _ w10) (Nat.le_refl _)).drew
 refine wp_unt (S:=fun V=>V.cell? ⟨bb,2,none⟩=some (.slice so rs.length bc)) 9 (by kernel_rfl) ?_
 generalize w10.drew=wd at *
 have HS0:=hide (BC.out wd XD.out)
 obtain⟨pz,hpz⟩:∃pz,pkZ most 300=pz:=⟨_,rfl⟩
 have PK:=hide (pick_any most 300 HFM.out (by decide) (by decide) wd)
 rw[hpz] at PK
 have R2:=hide (REO.out wd (pz:Int) XD.out)
 refine UntH.tk 0 rfl 84 HS0.out (fun w' q0=>by go_simp;first|done|rfl) ?_
 refine UntH.tk 1 rfl 85 HS0.out (fun w' q0=>by go_simp;first|done|rfl) ?_
 refine UntH.tk 2 rfl 86 HS0.out (fun w' q0=>by go_simp;first|done|rfl) ?_
 refine UntH.tk 3 rfl 87 HS0.out (fun w' q0=>by go_simp;first|done|rfl) ?_
 refine UntH.tk 4 rfl 88 HS0.out (fun w' q0=>by go_simp;first|done|rfl) ?_
 refine UntH.tk 5 rfl 89 HS0.out (fun w' q0=>by go_simp;first|done|rfl) ?_
 refine UntH.tk 6 rfl 90 HS0.out (fun w' q0=>by go_simp;first|done|rfl) ?_
 try simp only[Act.put,List.setIfInBounds_toArray,List.set_cons_zero,List.set_cons_succ]
 refine UntH.step (i:=7) (by kernel_rfl) rfl (fun K hK=>?_)
 go_simp
 refine PK.out.mono ?_
 rintro e w8 ⟨rfl,h⟩
 rw[h]
 clear h
 refine hK _ _ HS0.out ?_
 clear hK K
 refine UntH.step (i:=8) (by kernel_rfl) rfl (fun K hK=>?_)
 go_simp
 refine R2.out.mono ?_
 rintro e w11 ⟨rfl,x9⟩
 have Y11:=hide (bt XD.out x9 (Nat.le_refl _))
 clear x9
 refine hK _ _ (BC.out w11 Y11.out) ?_
 clear hK K
 refine UntH.last (by kernel_rfl) rfl (by kernel_rfl) (by kernel_rfl) (fun K hK=>?_)
 go_simp
 refine hK _ _ ?_
 clear hK K HS0 PK R2 XD Y10 hpz
 have b2:=BC.out w11 Y11.out
 have R1:=hide (REO.out w11 8192 Y11.out)
 go_upto_region 14 with(go_at_call 13;refine R1.out.mono ?_;clear R1;rintro e w12 ⟨rfl,x12⟩;have Y12:=hide (bt Y11.out x12 (Nat.le_refl _));clear x12)
 clear b2 Y11
 have ewl:IntKind.i64.wrap ((S.length:Int)-1)=((S.length-1:Nat):Int):=by simp[IntKind.wrap,IntKind.bits,IntKind.signed];omega
 have ewm:IntKind.i64.wrap ((S.length:Int)+1)=((S.length+1:Nat):Int):=by simp[IntKind.wrap,IntKind.bits,IntKind.signed];omega
 have XD:Hid (Below w7.heap.size w7 w12.drew):=(bt Y12.out (Below.refl _ w12) (Nat.le_refl _)).drew
 refine wp_unt (S:=fun V=>V.cell? ⟨bb,2,none⟩=some (.slice so rs.length bc)) 10 (by kernel_rfl) ?_
 generalize w12.drew=wd at *
 have HS0:=hide (BC.out wd XD.out)
 have PM:=hide (PER.out wd (S.length-1) (by omega))
 refine UntH.tk 0 rfl 100 HS0.out (fun w' q0=>by go_simp;first|done|rfl) ?_
 refine UntH.tk 1 rfl 101 HS0.out (fun w' q0=>by go_simp;first|done|rfl) ?_
 refine UntH.tk 2 rfl 102 HS0.out (fun w' q0=>by go_simp;first|done|rfl) ?_
 refine UntH.tk 3 rfl 103 HS0.out (fun w' q0=>by go_simp;first|done|rfl) ?_
 refine UntH.tk 4 rfl 104 HS0.out (fun w' q0=>by go_simp;first|done|rfl) ?_
 refine UntH.tk 5 rfl 105 HS0.out (fun w' q0=>by go_simp;first|done|rfl) ?_
 refine UntH.tk 6 rfl 106 HS0.out (fun w' q0=>by go_simp;first|done|rfl) ?_
 refine UntH.tk 7 rfl 107 HS0.out (fun w' q0=>by go_simp;first|done|rfl) ?_
 try simp only[Act.put,List.setIfInBounds_toArray,List.set_cons_zero,List.set_cons_succ]
 refine UntH.step (i:=8) (by kernel_rfl) rfl (fun K hK=>?_)
 go_simp
 refine PM.out.mono ?_
 rintro e w13 ⟨po2,pc2,O2,rfl,hO2,zo2,x8⟩
 have ZO2:=hide zo2
 have HO2:=hide hO2
 have Y8:=hide (bt XD.out x8 (Nat.le_refl _))
 clear x8 zo2 hO2
 refine hK _ _ (BC.out w13 Y8.out) ?_
 clear hK K
 have R2:Hid (Calls Try.prog 13 #[.pointer (some ⟨bb,0,none⟩),.slice so rs.length bc,.slice po2 (S.length-1) pc2,.int .i64 8192] w13 fun e w'=>e=.returned (.bool true)∧Below w13.heap.size w13 w'):=by
  have:=REB.out w13 po2 pc2 O2 8192 Y8.out ZO2.out (by rw[HO2.out];omega)
  rw[HO2.out] at this
  exact this
 refine UntH.step (i:=9) (by kernel_rfl) rfl (fun K hK=>?_)
 go_simp
 refine R2.out.mono ?_
 rintro e w14 ⟨rfl,x9⟩
 have Y13:=hide (bt Y8.out x9 (Nat.le_refl _))
 clear x9
 refine hK _ _ (BC.out w14 Y13.out) ?_
 clear hK K
 refine UntH.last (by kernel_rfl) rfl (by kernel_rfl) (by kernel_rfl) (fun K hK=>?_)
 go_simp
 refine hK _ _ ?_
 clear hK K HS0 PM R2 XD Y8 ZO2 HO2
 clear Y12
 go_upto_region 15 with fail
 have XD:Hid (Below w7.heap.size w7 w14.drew):=(bt Y13.out (Below.refl _ w14) (Nat.le_refl _)).drew
 refine wp_unt (S:=fun V=>V.cell? ⟨bb,2,none⟩=some (.slice so rs.length bc)) 10 (by kernel_rfl) ?_
 generalize w14.drew=wd at *
 have HS0:=hide (BC.out wd XD.out)
 have PM:=hide (PER.out wd (S.length+1) (by omega))
 refine UntH.tk 0 rfl 110 HS0.out (fun w' q0=>by go_simp;first|done|rfl) ?_
 refine UntH.tk 1 rfl 111 HS0.out (fun w' q0=>by go_simp;first|done|rfl) ?_
 refine UntH.tk 2 rfl 112 HS0.out (fun w' q0=>by go_simp;first|done|rfl) ?_
 refine UntH.tk 3 rfl 113 HS0.out (fun w' q0=>by go_simp;first|done|rfl) ?_
 refine UntH.tk 4 rfl 114 HS0.out (fun w' q0=>by go_simp;first|done|rfl) ?_
 refine UntH.tk 5 rfl 115 HS0.out (fun w' q0=>by go_simp;first|done|rfl) ?_
 refine UntH.tk 6 rfl 116 HS0.out (fun w' q0=>by go_simp;first|done|rfl) ?_
 refine UntH.tk 7 rfl 117 HS0.out (fun w' q0=>by go_simp;first|done|rfl) ?_
 try simp only[Act.put,List.setIfInBounds_toArray,List.set_cons_zero,List.set_cons_succ]
 refine UntH.step (i:=8) (by kernel_rfl) rfl (fun K hK=>?_)
 go_simp
 refine PM.out.mono ?_
 rintro e w15 ⟨po2,pc2,O2,rfl,hO2,zo2,x8⟩
 have ZO2:=hide zo2
 have HO2:=hide hO2
 have Y8:=hide (bt XD.out x8 (Nat.le_refl _))
 clear x8 zo2 hO2
 refine hK _ _ (BC.out w15 Y8.out) ?_
 clear hK K
 have R2:Hid (Calls Try.prog 13 #[.pointer (some ⟨bb,0,none⟩),.slice so rs.length bc,.slice po2 (S.length+1) pc2,.int .i64 8192] w15 fun e w'=>e=.returned (.bool true)∧Below w15.heap.size w15 w'):=by
  have:=REB.out w15 po2 pc2 O2 8192 Y8.out ZO2.out (by rw[HO2.out];omega)
  rw[HO2.out] at this
  exact this
 refine UntH.step (i:=9) (by kernel_rfl) rfl (fun K hK=>?_)
 go_simp
 refine R2.out.mono ?_
 rintro e w16 ⟨rfl,x9⟩
 have Y15:=hide (bt Y8.out x9 (Nat.le_refl _))
 clear x9
 refine hK _ _ (BC.out w16 Y15.out) ?_
 clear hK K
 refine UntH.last (by kernel_rfl) rfl (by kernel_rfl) (by kernel_rfl) (fun K hK=>?_)
 go_simp
 refine hK _ _ ?_
 clear hK K HS0 PM R2 XD Y8 ZO2 HO2
 go_wp2
 go_ret
 exact⟨rfl,bt X7.out Y15.out (Nat.le_refl _)⟩
end
end Go.Proofs.Ytnddhkhmbjeefaa
namespace Go.Proofs.Ytnddhkhmbjeefaa
open Go.RowKit Go.Deep Go.WideShapes Go.ChangeShapes
theorem weightsAll_mem {H:Type} {P:Program} {e:TypeId} {l:List (DataW H)} {d:DataW H} (hd:d∈l):∀n∈d.weights P e,n∈DataW.weightsAll P e l:=by
 induction l with
 |nil=>cases hd
 |cons x l ih=>
  intro n hn
  rw[DataW.weightsAll,List.mem_append]
  rcases List.mem_cons.1 hd with rfl|h
  ·exact .inl hn
  ·exact .inr (ih h n hn)
theorem Try.cells3:Try.prog.cellsOf 3=1:=by kernel_rfl
theorem Try.cells22:Try.prog.cellsOf 22=1:=by kernel_rfl
theorem Try.bytes3':Try.prog.bytesOf 3=8:=by kernel_rfl
theorem one_of {α:Type} (l:List α) (h:l.length=1):∃a,l=[a]:=by
 match l,h with
 |[a],_=>exact⟨a,rfl⟩
theorem fit_wf {n:Int} (h:(Lit.int .i64 n).wf=true):Fit n:=by
 simp only[Lit.wf,IntKind.min,IntKind.max,IntKind.signed,IntKind.bits,Bool.and_eq_true,decide_eq_true_eq,if_true] at h
 unfold Fit
 omega
theorem choose_int {p:Nat→Int→Prop}:∀n,(∀i,i<n→∃s,p i s)→∃L:List Int,L.length=n∧∀i,i<n→p i (L.getD i 0)
 |0,_=>⟨[],rfl,fun i hi=>absurd hi (Nat.not_lt_zero i)⟩
 |n+1,h=>by
  obtain⟨L,h1,h2⟩:=choose_int n (fun i hi=>h i (by omega))
  obtain⟨s,hs⟩:=h n (by omega)
  refine⟨L++[s],by simp[h1],fun i hi=>?_⟩
  by_cases hn:i<n
  ·have:=h2 i hn
   simpa [List.getD_eq_getElem?_getD,List.getElem?_append,h1,hn] using this
  ·have:i=n:=by omega
   subst this
   subst h1
   simpa [List.getD_eq_getElem?_getD] using hs
theorem all_getD {L:List Int} {q:Int→Prop} (h:∀i,i<L.length→q (L.getD i 0)):∀k∈L,q k:=fun k hk=>by
 obtain⟨i,hi,rfl⟩:=List.getElem_of_mem hk
 have:=h i hi
 simpa [List.getD_eq_getElem?_getD,hi] using this
def Bnd {H:Type} (up:Bool) (t:TypeId) (d:DataW H):Prop:=if up then False else ∀k∈d.weights Try.prog t,k≤reachBytes
theorem ints_open {H:Type} {enc:TypeId×Value→H} {W:World} {fuel:Nat} {a0:Option Addr} {len cap:Nat} {d:DataW H} {p:List MemPlace} {up:Bool}
 (hf:DataW.trod enc Try.prog W 0 (fun _=>true) true fuel 22 [.slice a0 len cap]=some (d,p)) (hw:Bnd up 22 d):∃L:List Int,L.length=len∧ZAt W a0 L∧(∀k∈L,Fit k)∧len≤17592186043904:=by
 rcases open_slice Try.underlying22 hf with⟨hcs,_⟩|⟨a,l,c,m,n,V,Pl,hcs,_,hl,hm,hmm,hx,hat⟩
 ·injection hcs with hv
  injection hv with e1 e2 e3
  subst e2 e3
  exact⟨[],rfl,.inl rfl,fun k hk=>by simp at hk,by omega⟩
 ·injection hcs with hv
  injection hv with e1 e2 e3
  subst e1 e2 e3
  simp only[if_true] at hmm
  subst hmm
  simp only[Prod.mk.injEq] at hx
  obtain⟨hd,hp⟩:=hx
  have hlen:len≤17592186043904:=by
   unfold Bnd at hw
   cases up with
   |true=>
    simp only[if_true] at hw
   |false=>
    simp only[Bool.false_eq_true,if_false] at hw
    have hcap:(len+(m-len))*8≤reachBytes:=by
     refine hw _ ?_
     rw[hd]
     simp[DataW.weights,Try.underlying22,Try.bytes3']
    simp only[reachBytes] at hcap
    omega
  by_cases h0:len=0
  ·subst h0
   exact⟨[],rfl,.inl rfl,fun k hk=>by simp at hk,by omega⟩
  have each:∀i,i<len→∃z:Int,W.cell? (a.add (i*1))=some (.int .i64 z)∧Fit z:=by
   intro i hi
   obtain⟨cs',g1,g2⟩:=hat i (by omega)
   rw[Try.cells3] at g1
   obtain⟨_,hlen,hcell⟩:=World.cells?_some g1
   obtain⟨v,rfl⟩:=one_of cs' hlen
   obtain⟨z,e,_,hwf⟩:=DataW.trod_int Try.underlying3 g2
   simp only[List.cons.injEq,and_true] at e
   subst e
   have c0:=hcell 0 (by decide)
   rw[add_add] at c0
   exact⟨z,by simpa using c0,fit_wf hwf⟩
  obtain⟨L,hL,hp'⟩:=choose_int len each
  obtain⟨b,off,spot⟩:=a
  have hz:=(hp' 0 (by omega)).1
  have hspot:spot=none:=by simpa [Addr.add] using World.cell?_spot hz
  subst hspot
  refine⟨L,hL,.inr ⟨b,off,rfl,World.block_lt_of_cell? W _ (by simpa [Addr.add] using hz),fun i hi=>?_⟩,all_getD (fun i hi=>(hp' i (by omega)).2),hlen⟩
  have q0:=(hp' i (by omega)).1
  rw[addr_add,Nat.mul_one] at q0
  exact q0
theorem slice_of {H:Type} {enc:TypeId×Value→H} {W:World} {fuel:Nat} {t e:TypeId} {v:Value} {x:DataW H×List MemPlace} (hu:Try.prog.underlying t=some (.slice e)) (hf:DataW.trod enc Try.prog W 0 (fun _=>true) true fuel t [v]=some x):∃ai li ci,v=.slice ai li ci:=by
 rcases open_slice hu hf with⟨hcs,_⟩|⟨a',l',c',_,_,_,_,hcs,_⟩
 ·injection hcs with hv;exact⟨none,0,0,hv⟩
 ·injection hcs with hv;exact⟨_,l',c',hv⟩
theorem two_of {α:Type} (l:List α) (h:l.length=2):∃a b,l=[a,b]:=by
 match l,h with
 |[a,b],_=>exact⟨a,b,rfl⟩
theorem three_of {α:Type} (l:List α) (h:l.length=3):∃a b c,l=[a,b,c]:=by
 match l,h with
 |[a,b,c],_=>exact⟨a,b,c,rfl⟩
theorem Try.cells54:Try.prog.cellsOf 54=2:=by kernel_rfl
theorem Try.cells25:Try.prog.cellsOf 25=3:=by kernel_rfl
theorem Try.cells23':Try.prog.cellsOf 23=1:=by kernel_rfl
theorem Try.bytes54:Try.prog.bytesOf 54=32:=by kernel_rfl
theorem choose_any {α:Type} {p:Nat→α→Prop}:∀n,(∀i,i<n→∃s,p i s)→∃L:List α,L.length=n∧∀i (h:i<L.length),p i L[i]
 |0,_=>⟨[],rfl,fun i hi=>absurd hi (Nat.not_lt_zero i)⟩
 |n+1,h=>by
  obtain⟨L,h1,h2⟩:=choose_any n (fun i hi=>h i (by omega))
  obtain⟨s,hs⟩:=h n (by omega)
  refine⟨L++[s],by simp[h1],fun i hi=>?_⟩
  by_cases hn:i<L.length
  ·rw[List.getElem_append_left hn];exact h2 i hn
  ·have:i=L.length:=by rw[List.length_append,List.length_singleton] at hi;omega
   subst this
   rw[List.getElem_append_right (Nat.le_refl _)]
   simp only[Nat.sub_self,List.getElem_cons_zero]
   rw[h1];exact hs
structure RwOk (W:World) (x:RW):Prop where
 fit:Fit x.lv
 kf:∀c∈x.ks,Fit c
 at':ZAt W x.ka x.ks
 len:x.ks.length≤17592186043904
def RwRd (W:World) (a:Addr) (i:Nat) (o:RW):Prop:=W.cell? (a.add (i*2))=some (.int .i64 o.lv)∧W.cell? (a.add (i*2+1))=some (.slice o.ka o.ks.length o.kc)∧RwOk W o
theorem raws_open {H:Type} {enc:TypeId×Value→H} {W:World} {fuel:Nat} {a0:Option Addr} {len cap:Nat} {d:DataW H} {p:List MemPlace}
 (hf:DataW.trod enc Try.prog W 0 (fun _=>true) true fuel 23 [.slice a0 len cap]=some (d,p)) (hw:Bnd false 23 d):∃S:List RW,S.length=len∧len≤17592186043904∧RawAt W a0 S∧∀x∈S,Fit x.lv∧∀c∈x.ks,Fit c:=by
 rcases open_slice Try.underlying23 hf with⟨hcs,_⟩|⟨a,l,c,m,n,V,Pl,hcs,_,hl,hm,hmm,hx,hat⟩
 ·injection hcs with hv
  injection hv with e1 e2 e3
  subst e2 e3
  exact⟨[],rfl,Nat.zero_le _,⟨.inl rfl,fun x hx=>by simp at hx⟩,fun x hx=>by simp at hx⟩
 ·injection hcs with hv
  injection hv with e1 e2 e3
  subst e1 e2 e3
  simp only[if_true] at hmm
  subst hmm
  simp only[Prod.mk.injEq] at hx
  obtain⟨hd,hp⟩:=hx
  unfold Bnd at hw
  simp only[Bool.false_eq_true,if_false] at hw
  have hlen:len≤17592186043904:=by
   have hcap:(len+(m-len))*32≤reachBytes:=by
    refine hw _ ?_
    rw[hd]
    simp[DataW.weights,Try.underlying23,Try.bytes54]
   simp only[reachBytes] at hcap
   omega
  by_cases h0:len=0
  ·subst h0
   exact⟨[],rfl,Nat.zero_le _,⟨.inl rfl,fun x hx=>by simp at hx⟩,fun x hx=>by simp at hx⟩
  have each:∀i,i<len→∃o:RW,RwRd W a i o:=fun i hi=>by
   obtain⟨cs',g1,g2⟩:=hat i (by omega)
   rw[Try.cells54] at g1
   obtain⟨_,hlen',hcell⟩:=World.cells?_some g1
   obtain⟨xs,k,_,hxy,_,hxl,hfs⟩:=DataW.trod_struct Try.underlying54 g2
   obtain⟨v0,v1,rfl⟩:=two_of cs' hlen'
   obtain⟨y0,y1,rfl⟩:=two_of xs hxl
   have g0:=hfs 0 _ rfl
   have g1':=hfs 1 _ rfl
   simp[Try.cells3,Try.cells22] at g0 g1'
   obtain⟨n0,e0,f0,w0⟩:=DataW.trod_int Try.underlying3 g0
   simp only[List.cons.injEq,and_true] at e0
   subst e0
   obtain⟨ai,li,ci,rfl⟩:=slice_of Try.underlying22 g1'
   obtain⟨L,e5,hz,hk,hl5⟩:=ints_open (d:=y1.1) (p:=y1.2) (up:=false) g1' (by
    unfold Bnd
    simp only[Bool.false_eq_true,if_false]
    intro k hk
    refine hw k ?_
    rw[hd]
    simp only[DataW.weights,Try.underlying23,List.mem_cons,List.mem_append]
    refine .inr (.inl (weightsAll_mem (List.mem_map.2 ⟨i,List.mem_range.2 hi,rfl⟩) k ?_))
    have hd2:=congrArg Prod.fst hxy
    simp only at hd2
    rw[hd2]
    simp[DataW.weights,Try.underlying54]
    exact DataW.weights_mem_each (j:=1) (t:=22) rfl rfl k hk)
   subst e5
   have c0:=hcell 0 (by decide)
   have c1:=hcell 1 (by decide)
   rw[add_add] at c0 c1
   exact⟨⟨n0,ai,ci,L⟩,by simpa using c0,by simpa using c1,⟨fit_wf w0,hk,hz,hl5⟩⟩
  obtain⟨L,hL,hp'⟩:=choose_any len each
  obtain⟨b,off,spot⟩:=a
  have hz:=(hp' 0 (by omega)).1
  have hspot:spot=none:=by simpa [Addr.add] using World.cell?_spot hz
  subst hspot
  refine⟨L,hL,hlen,⟨.inr ⟨b,off,rfl,World.block_lt_of_cell? W _ (by simpa [Addr.add] using hz),fun i hi=>?_⟩,fun x hx=>?_⟩,fun x hx=>?_⟩
  ·obtain⟨q0,q1,_⟩:=hp' i hi
   rw[addr_add] at q0 q1
   exact⟨q0,by rw[Nat.add_assoc];exact q1⟩
  ·obtain⟨i,hi,rfl⟩:=List.getElem_of_mem hx
   have r:=(hp' i hi).2.2
   exact⟨r.at',by have:=r.len;omega⟩
  ·obtain⟨i,hi,rfl⟩:=List.getElem_of_mem hx
   have r:=(hp' i hi).2.2
   exact⟨r.fit,r.kf⟩
set_option maxRecDepth 100000 in
theorem made_open {H:Type} {enc:TypeId×Value→H} {W:World} {base:Nat} {v:Value} {d:DataW H} {p:List MemPlace} {r:_}
 (hok:Value.okWide Try.prog W r base 25 v) (h:DataW.Trod enc Try.prog W 0 (fun _=>true) true 25 v d p) (hw:Bnd false 25 d):∃ao A c1 no Ns c2 ro Rt c3,v=.agg #[.slice ao (List.length A) c1,.slice no (List.length Ns) c2,.slice ro (List.length Rt) c3]∧MdA W ao A no Ns ro Rt:=by
 obtain⟨cs,rfl,hsz⟩:=okWide_struct Try.underlying25 hok
 obtain⟨fuel,hf⟩:=h
 obtain⟨xs,k,_,hxy,_,hxl,hfs⟩:=DataW.trod_struct Try.underlying25 hf
 rw[Try.cells25] at hsz
 obtain⟨l⟩:=cs
 obtain⟨v0,v1,v2,rfl⟩:=three_of l (by simpa using hsz)
 obtain⟨y0,y1,y2,rfl⟩:=three_of xs hxl
 have g0:=hfs 0 _ rfl
 have g1:=hfs 1 _ rfl
 have g2:=hfs 2 _ rfl
 simp[Value.cells,Try.cells22,Try.cells23'] at g0 g1 g2
 obtain⟨a0,l0,c0,rfl⟩:=slice_of Try.underlying22 g0
 obtain⟨a1,l1,c1,rfl⟩:=slice_of Try.underlying23 g1
 obtain⟨a2,l2,c2,rfl⟩:=slice_of Try.underlying22 g2
 unfold Bnd at hw
 simp only[Bool.false_eq_true,if_false] at hw
 have wm:∀(j:Nat) (t:TypeId) (y:DataW H),([22,23,22]:List TypeId)[j]? =some t→([y0.1,y1.1,y2.1]:List (DataW H))[j]? =some y→Bnd false t y:=fun j t y h1 h2=>by
  unfold Bnd
  simp only[Bool.false_eq_true,if_false]
  intro n hn
  refine hw n ?_
  have hd:=congrArg Prod.fst hxy
  simp only at hd
  rw[hd]
  simp[DataW.weights,Try.underlying25]
  exact DataW.weights_mem_each (j:=j) (t:=t) h1 h2 n hn
 obtain⟨A,e0,z0,f0,b0⟩:=ints_open (d:=y0.1) (p:=y0.2) g0 (wm 0 22 _ rfl rfl)
 obtain⟨Ns,e1,b1,z1,f1⟩:=raws_open (d:=y1.1) (p:=y1.2) g1 (wm 1 23 _ rfl rfl)
 obtain⟨Rt,e2,z2,f2,b2⟩:=ints_open (d:=y2.1) (p:=y2.2) g2 (wm 2 22 _ rfl rfl)
 subst e0 e1 e2
 exact⟨a0,A,c0,a1,Ns,c1,a2,Rt,c2,rfl,⟨z0,f0,by omega,z1,f1,by omega,z2,f2,by omega⟩⟩
end Go.Proofs.Ytnddhkhmbjeefaa

