/-
  kept by its contract: a list lent that came back as it was; it is written over. Condition: no longer than a machine can hold.
-/
import Derived.Test.YtnddhkhmbjeefaaC48
import Derived.Test.YtnddhkhmbjeefaaC36
import Derived.Test.YtnddhkhmbjeefaaC37
import Derived.Lib.AppendZeros
namespace Go.Proofs.Ytnddhkhmbjeefaa
open Go.RowKit Go.Lib Go.Maps
section
variable {w:World} {L:List Int} {g:Nat}
theorem lent_zat (h:RwZ w g (L++[-77,-77])):ZAt w (some ⟨g,0,none⟩) L∧w.cell? ⟨g,L.length,none⟩=some (.int .i64 (-77))∧w.cell? ⟨g,L.length+1,none⟩=some (.int .i64 (-77)):=by
 refine⟨.inr ⟨g,0,rfl,h.lt,fun i hi=>?_⟩,?_,?_⟩
 ·rw[Nat.zero_add,h.cell (k:=i) (by simp;omega),List.getD_eq_getElem?_getD,List.getElem?_append_left hi,List.getD_eq_getElem?_getD]
 ·rw[h.cell (k:=L.length) (by simp),List.getD_eq_getElem?_getD,List.getElem?_append_right (Nat.le_refl _),Nat.sub_self]
  rfl
 ·rw[h.cell (k:=L.length+1) (by simp),List.getD_eq_getElem?_getD,List.getElem?_append_right (by omega),show L.length+1-L.length=1 by omega]
  rfl
set_option maxRecDepth 100000 in
set_option maxHeartbeats 4000000 in
theorem kept_any (ao:Option Addr) (cap:Nat) (hl:L.length≤268435456) (hz:ZAt w ao L) (h:RwZ w g (L++[-77,-77])):
 Calls Try.prog 37 #[.slice (some ⟨g,0,none⟩) (L.length+2) (L.length+2),.slice ao L.length cap] w fun e w'=>e=.returned (.bool true)∧Kept (fun k=>k=g) w w':=by
 obtain⟨nn,hnn⟩:∃nn,L.length+2=nn:=⟨_,rfl⟩
 obtain⟨n1,hn1⟩:∃n1,L.length+1=n1:=⟨_,rfl⟩
 have ew1:IntKind.i64.wrap ((L.length:Int)+1)=((L.length+1:Nat):Int):=by simp[IntKind.wrap,IntKind.bits,IntKind.signed];omega
 rw[hn1] at ew1
 obtain⟨z1,z2,z3⟩:=lent_zat h
 rw[hn1] at z3
 have INT:Hid (Calls Try.prog 23 #[.slice (some ⟨g,0,none⟩) L.length nn,.slice ao L.length cap] w fun e w'=>e=.returned (.bool true)∧Below w.heap.size w w'):=by
  have:=ints_any (some ⟨g,0,none⟩) ao nn cap L L w (by omega) z1 hz
  rw[show decide (L=L)=true by simp] at this
  exact this
 have HR:=hide h
 have HNN:=hide hnn
 have hb:nn≤268435458:=by omega
 have i0:(L.length:Int)≤(nn:Int):=by omega
 have i1:(L.length:Int)<(nn:Int):=by omega
 have i2:(n1:Int)<(nn:Int):=by omega
 have Z2:=hide z2
 have Z3:=hide z3
 rw[hnn]
 clear hz h z1 z2 z3 hn1 hnn
 go_enter Try.func37,Try.ntmps37
 go_upto_region 2 with(go_at_call 23;refine INT.out.mono ?_;clear INT;rintro e w1 ⟨rfl,x1⟩;have X1:=hide x1;clear x1)
 have c1:=(X1.out.cell (p:=⟨g,L.length,none⟩) HR.out.lt).trans Z2.out
 have c2:=(X1.out.cell (p:=⟨g,n1,none⟩) HR.out.lt).trans Z3.out
 have R1:Hid (∃R:List Int,R.length=nn∧RwZ w1 g R):=⟨_,by rw[←HNN.out];simp,HR.out.below X1.out⟩
 have K1:Hid (Kept (fun k=>k=g) w w1):=Kept.of_below X1.out
 clear X1 HR Z2 Z3
 go_upto_block 0 with fail
 clear c1 c2
 go_wp2
 go_loopw [7] (fun v wr=>∃k:Nat,k≤nn∧v=.int .i64 (k:Int)∧Hid (∃R:List Int,R.length=nn∧RwZ wr g R)∧Hid (Kept (fun k=>k=g) w wr)) (fun v _=>nn-(RowKit.intOf v).toNat)
 case atStart=>exact⟨0,Nat.zero_le _,rfl,R1,K1⟩
 case round=>
  obtain⟨k,hk,rfl,RK,KK⟩:=hrel
  clear R1 K1
  by_cases hlt:k<nn
  ·have hlt':(k:Int)<(nn:Int):=by omega
   obtain⟨R,hRl,hR⟩:=RK.out
   have c1:=hR.cell (k:=k) (by omega)
   have f1:=hR.fro k
   have R2:Hid (∃R:List Int,R.length=nn∧RwZ (wr.setCell ⟨g,k,none⟩ (.int .i64 (-78))) g R):=⟨R.set k (-78),by rw[List.length_set];exact hRl,hR.set k (-78)⟩
   have K2:Hid (Kept (fun k=>k=g) w (wr.setCell ⟨g,k,none⟩ (.int .i64 (-78)))):=KK.out.setCell (F:=fun k=>k=g) (p:=⟨g,k,none⟩) rfl _
   clear hR hRl RK KK
   go_wp2
   go_roundw
   case rel=>exact⟨k+1,by omega,by go_num,R2,K2⟩
   case measure=>simp[RowKit.intOf];omega
  ·have hlt':¬(k:Int)<(nn:Int):=by omega
   go_wp2
   go_ret
   exact⟨rfl,KK.out⟩
end
section
variable {w:World} {a x:Nat} {S:List Int} {M:Int} {N:List Nd} {m:Nat} {P Q:Nat→Prop}
set_option maxRecDepth 100000 in
theorem mostC_any (h:CA w a S M N m P):Calls Try.prog 67 #[.pointer (some ⟨a,0,none⟩)] w fun e w'=>e=.returned (.int .i64 M)∧w'=w:=by
 obtain⟨R,sb,sc,nv,mb,h1,rfl⟩:=h
 obtain⟨c0,c1,c2,c3⟩:=h1.cells
 clear h1 c0 c2 c3
 go_enter Try.func67,Try.ntmps67
 go_wp2
 go_ret
 exact⟨rfl,rfl⟩
set_option maxRecDepth 100000 in
theorem mostD_any (h:RA w x S M N Q):Calls Try.prog 68 #[.pointer (some ⟨x,0,none⟩)] w fun e w'=>e=.returned (.int .i64 M)∧w'=w:=by
 obtain⟨sb,sc,_,c1,_,_⟩:=h.fields
 clear h
 go_enter Try.func68,Try.ntmps68
 go_wp2
 go_ret
 exact⟨rfl,rfl⟩
set_option maxRecDepth 100000 in
set_option maxHeartbeats 4000000 in
theorem both_any (hC:CA w a S M N m P) (hR:RA w x S M N Q):Calls Try.prog 38 #[.pointer (some ⟨a,0,none⟩),.pointer (some ⟨x,0,none⟩)] w fun e w'=>e=.returned (.bool true)∧Below w.heap.size w w':=by
 have hN:=hR.ok.few
 have hM:=hR.m8
 have HC:=hide hC
 have HR:=hide hR
 have hS12:=hR.ok.sz.le
 obtain⟨nn,hnn⟩:∃nn,N.length=nn:=⟨_,rfl⟩
 have HNN:=hide hnn
 have hn8:nn≤8192:=by omega
 clear hC hR hnn
 have SZC:=hide HC.out.sizes
 have SZD:Hid (∀V,Below w.heap.size w V→Calls Try.prog 11 #[.pointer (some ⟨x,0,none⟩)] V fun e w'=>∃g c,e=.returned (.slice (some ⟨g,0,none⟩) S.length c)∧ZBk w' g S∧V.heap.size≤g∧Below V.heap.size V w'):=fun V hV=>sizesD_any (HR.out.below hV)
 have LC:Hid (∀V,Below w.heap.size w V→Calls Try.prog 20 #[.pointer (some ⟨a,0,none⟩)] V fun e w'=>e=.returned (.int .i64 (nn:Int))∧w'=V):=fun V hV=>by have:=(HC.out.below hV).len;rw[HNN.out] at this;exact this
 have LD:Hid (∀V,Below w.heap.size w V→Calls Try.prog 26 #[.pointer (some ⟨x,0,none⟩)] V fun e w'=>e=.returned (.int .i64 (nn:Int))∧w'=V):=fun V hV=>by have:=(HR.out.below hV).len;rw[HNN.out] at this;exact this
 have MC:Hid (∀V,Below w.heap.size w V→Calls Try.prog 67 #[.pointer (some ⟨a,0,none⟩)] V fun e w'=>e=.returned (.int .i64 M)∧w'=V):=fun V hV=>mostC_any (HC.out.below hV)
 have MD:Hid (∀V,Below w.heap.size w V→Calls Try.prog 68 #[.pointer (some ⟨x,0,none⟩)] V fun e w'=>e=.returned (.int .i64 M)∧w'=V):=fun V hV=>mostD_any (HR.out.below hV)
 go_enter Try.func38,Try.ntmps38
 go_upto_region 2 with(first
  |(go_at_call 17;refine SZC.out.mono ?_;clear SZC;rintro e w1 h1;obtain⟨⟨g,c,rfl,_,zc,_⟩,x1⟩:=h1;have X1:=hide x1;have ZC:=hide zc.at;clear zc x1)
  |(go_at_call 11;refine(SZD.out w1 X1.out).mono ?_;clear SZD;rintro e w2 ⟨g2,c2,rfl,zb,_,x2⟩;have X2:=hide (bt X1.out x2 (Nat.le_refl _));have ZD:=hide zb;have ZC2:=hide (ZC.out.below x2);clear zb x2)
  |(go_at_call 23;refine(ints_any (some ⟨g,0,none⟩) (some ⟨g2,0,none⟩) c c2 S S w2 (by omega) ZC2.out ZD.out.at).mono ?_;rintro e w3 ⟨rfl,x3⟩;have X3:=hide (bt X2.out x3 (Nat.le_refl _));rw[show decide (S=S)=true by simp];clear x3))
 clear ZC ZD ZC2 X1 X2
 have NOD:Hid (∀i (hi:i<N.length),∃(lv:Int) (ks:List Int),ks.length≤140737488351232∧(∀V,Below w.heap.size w V→Calls Try.prog 45 #[.pointer (some ⟨a,0,none⟩),.int .i64 ((i:Int)+2)] V fun e w'=>∃g c,e=.returned (.tuple #[.agg #[.int .i64 lv,.slice (some ⟨g,0,none⟩) ks.length c],.int .i64 0])∧ZBk w' g ks∧Below V.heap.size V w')∧∀V,Below w.heap.size w V→Calls Try.prog 69 #[.pointer (some ⟨x,0,none⟩),.int .i64 ((i:Int)+2)] V fun e w'=>∃g c,e=.returned (.tuple #[.agg #[.int .i64 lv,.slice (some ⟨g,0,none⟩) ks.length c],.int .i64 0])∧ZBk w' g ks∧Below V.heap.size V w'):=fun i hi=>by
  have key:∀(V:World) (e:Ending) (w':World),NdL N ((i:Int)+2) V e w'→∃g c,e=.returned (.tuple #[.agg #[.int .i64 (N[i]).1,.slice (some ⟨g,0,none⟩) (N[i]).2.length c],.int .i64 0])∧ZBk w' g (N[i]).2∧Below V.heap.size V w':=fun V e w' ⟨hor,hb⟩=>by
   rcases hor with⟨i',lv,ks',g,c,h1,h2,h3,_,h5,_⟩|⟨h1,_⟩
   ·have e1:i'=i:=by omega
    subst e1
    rw[List.getElem?_eq_getElem hi] at h1
    have e2:=Option.some.inj h1
    rw[e2]
    exact⟨g,c,h3,h5,hb⟩
   ·exact absurd ⟨by omega,by omega⟩ h1
  exact⟨(N[i]).1,(N[i]).2,(HR.out.ok.may hi).few HR.out.ok.sz,fun V hV=>((HC.out.below hV).node _).mono (fun e w' h=>key V e w' h),fun V hV=>((HR.out.below hV).node _).mono (fun e w' h=>key V e w' h)⟩
 go_upto_region 4 with(first
  |(go_at_call 20;refine(LC.out w3 X3.out).mono ?_;rintro e w4 ⟨rfl,rfl⟩)
  |(go_at_call 26;refine(LD.out _ X3.out).mono ?_;rintro e w5 ⟨rfl,rfl⟩)
  |(go_at_call 67;refine(MC.out _ X3.out).mono ?_;rintro e w6 ⟨rfl,rfl⟩)
  |(go_at_call 68;refine(MD.out _ X3.out).mono ?_;rintro e w7 ⟨rfl,rfl⟩))
 have XW:=X3
 clear LC MC MD X3
 go_upto_block 0 with fail
 go_wp2
 go_loopw [6] (fun v wr=>∃k:Nat,k≤nn∧v=.int .i64 ((k:Int)+2)∧Hid (Below w.heap.size w wr)) (fun v _=>nn+2-(RowKit.intOf v).toNat)
 case atStart=>exact⟨0,Nat.zero_le _,rfl,XW⟩
 case round=>
  obtain⟨k,hk,rfl,BL⟩:=hrel
  clear XW
  have LDR:=hide (LD.out wr BL.out)
  by_cases hlt:k<nn
  ·obtain⟨lv,ks,hks,n1,n2⟩:=NOD.out k (by rw[HNN.out];exact hlt)
   have N1:=hide (n1 wr BL.out)
   have N2:=hide n2
   clear n1 n2
   obtain⟨f,hf⟩:∃f:Nat,(k:Int)+2=(f:Int):=⟨k+2,by omega⟩
   have hfk:f=k+2:=by omega
   rw[hf] at N1 N2 ⊢
   have hlt':(f:Int)<(nn:Int)+2:=by omega
   have hfn:f≤8194:=by omega
   have HFK:=hide hfk
   clear hf hfk
   go_upto_region 8 with(first
    |(go_at_call 26;refine LDR.out.mono ?_;clear LDR;rintro e w5 ⟨rfl,rfl⟩)
    |(go_at_call 45;refine N1.out.mono ?_;clear N1;rintro e w6 ⟨gc,cc,rfl,zc,xc⟩;have ZC:=hide zc;have XC:=hide (bt BL.out xc (Nat.le_refl _));clear zc xc))
   have YA:Hid (Below w6.heap.size w6 (w6.alloc (.cells #[.int .i64 lv,.slice (some ⟨gc,0,none⟩) ks.length cc] 86))):=al (Below.refl _ _) _
   have BA:=hide (heap_alloc_new w6 (.cells #[.int .i64 lv,.slice (some ⟨gc,0,none⟩) ks.length cc] 86))
   generalize w6.alloc (.cells #[.int .i64 lv,.slice (some ⟨gc,0,none⟩) ks.length cc] 86)=wa at *
   obtain⟨bn,hbn⟩:∃bn,w6.heap.size=bn:=⟨_,rfl⟩
   rw[hbn] at BA ⊢
   clear hbn
   have XA:=hide (bt XC.out YA.out (Nat.le_refl _))
   have ZA:=hide (ZC.out.below YA.out)
   clear ZC XC YA
   go_upto_region 9 with(go_at_call 69;refine(N2.out wa XA.out).mono ?_;clear N2;rintro e w7 ⟨gd,cd,rfl,zd,xd⟩;have ZD:=hide zd;have YD:=hide xd;clear zd xd)
   have YB:Hid (Below w7.heap.size w7 (w7.alloc (.cells #[.int .i64 lv,.slice (some ⟨gd,0,none⟩) ks.length cd] 86))):=al (Below.refl _ _) _
   have BB:=hide (heap_alloc_new w7 (.cells #[.int .i64 lv,.slice (some ⟨gd,0,none⟩) ks.length cd] 86))
   generalize w7.alloc (.cells #[.int .i64 lv,.slice (some ⟨gd,0,none⟩) ks.length cd] 86)=wb at *
   obtain⟨bm,hbm⟩:∃bm,w7.heap.size=bm:=⟨_,rfl⟩
   rw[hbm] at BB ⊢
   clear hbm
   have YAB:=hide (bt YD.out YB.out (Nat.le_refl _))
   have XB:=hide (bt XA.out YAB.out (Nat.le_refl _))
   have ZA2:=hide (ZA.out.below YAB.out)
   have ZD2:=hide (ZD.out.below YB.out)
   have BA2:Hid (wb.heap[bn]? =_):=(YAB.out.block bn (lt_of_block BA.out)).trans BA.out
   have CC:Hid (∀V,Below wb.heap.size wb V→V.cell? ⟨bn,0,none⟩=some (.int .i64 lv)∧V.cell? ⟨bn,1,none⟩=some (.slice (some ⟨gc,0,none⟩) ks.length cc)∧V.cell? ⟨bm,0,none⟩=some (.int .i64 lv)∧V.cell? ⟨bm,1,none⟩=some (.slice (some ⟨gd,0,none⟩) ks.length cd)):=fun V hV=>by
    have b1:=(hV.block bn (lt_of_block BA2.out)).trans BA2.out
    have b2:=(hV.block bm (lt_of_block BB.out)).trans BB.out
    refine⟨?_,?_,?_,?_⟩
    ·rw[cell_of_row V _ _ _ _ _ b1];rfl
    ·rw[cell_of_row V _ _ _ _ _ b1];rfl
    ·rw[cell_of_row V _ _ _ _ _ b2];rfl
    ·rw[cell_of_row V _ _ _ _ _ b2];rfl
   obtain⟨_,m1,_,m3⟩:=CC.out wb (Below.refl _ _)
   clear ZA ZD YD YB YAB BA BA2 BB XA
   go_upto_region 10 with(go_at_call 23;refine(ints_any (some ⟨gc,0,none⟩) (some ⟨gd,0,none⟩) cc cd ks ks wb hks ZA2.out.at ZD2.out.at).mono ?_;rintro e w8 ⟨rfl,xi⟩;have X8:=hide xi;have XI:=hide (bt XB.out xi (Nat.le_refl _));rw[show decide (ks=ks)=true by simp];clear xi)
   obtain⟨m0,_,m2,_⟩:=CC.out w8 X8.out
   clear ZA2 ZD2 XB BL CC X8 m1 m3
   go_wp2
   go_roundw
   case rel=>
    have hfk:=HFK.out
    subst hfk
    exact⟨k+1,by omega,by go_num,XI⟩
   case measure=>
    have hfk:=HFK.out
    simp[RowKit.intOf]
    omega
  ·have hlt':¬(k:Int)+2<(nn:Int)+2:=by omega
   go_wp2_with (go_at_call 26;refine LDR.out.mono ?_;clear LDR;rintro e w5 ⟨rfl,rfl⟩)
   go_ret
   exact⟨rfl,BL.out⟩
end
structure BoY (w:World) (bb a x:Nat) (ro:Option Addr) (rc:Nat) (S:List Int) (N:List Nd) (rs:List Int):Prop where
 bx:BoX w bb a (.pointer (some ⟨x,0,none⟩)) ro rc S 8192 N rs
 ra:∃Q,RA w x S 8192 N Q
 n4:N.length≤400
theorem tr_le:∀n,n≤7→tr n≤5461
 |0,_=>by decide
 |1,_=>by decide
 |2,_=>by decide
 |3,_=>by decide
 |4,_=>by decide
 |5,_=>by decide
 |6,_=>by decide
 |7,_=>by decide
 |n+8,h=>absurd h (by omega)
section
variable {w w':World} {bb a x:Nat} {ro:Option Addr} {rc:Nat} {S:List Int} {N:List Nd} {rs qs o:List Int} {most:Int}
theorem BoY.below (h:BoY w bb a x ro rc S N rs) (y:Below w.heap.size w w'):BoY w' bb a x ro rc S N rs:=by
 obtain⟨Q,hr⟩:=h.ra
 exact⟨h.bx.below y,⟨Q,hr.below y⟩,h.n4⟩
theorem BoY.cells (h:BoY w bb a x ro rc S N rs):w.cell? ⟨bb,0,none⟩=some (.pointer (some ⟨a,0,none⟩))∧w.cell? ⟨bb,1,none⟩=some (.pointer (some ⟨x,0,none⟩))∧w.cell? ⟨bb,2,none⟩=some (.slice ro rs.length rc):=
 ⟨by rw[cell_of_row w _ _ _ _ _ h.bx.blk];rfl,by rw[cell_of_row w _ _ _ _ _ h.bx.blk];rfl,by rw[cell_of_row w _ _ _ _ _ h.bx.blk];rfl⟩
theorem BoY.sml (h:BoY w bb a x ro rc S N rs) (hq:∀f∈qs,hasR N f):Sml S (qs.map fun f p=>sayR N p f):=
 ⟨h.bx.ls,h.bx.lc,(List.range (N.length+2)).map (fun(f:Nat) p=>sayR N p (f:Int)),by have:=h.n4;simp;omega,fun φ hφ=>by
   obtain⟨f,hf,rfl⟩:=List.mem_map.1 hφ
   obtain⟨h1,h2⟩:=hq f hf
   exact List.mem_map.2 ⟨f.toNat,List.mem_range.2 (by omega),by funext p;rw[Int.toNat_of_nonneg h1]⟩⟩
theorem BoY.room (h:BoY w bb a x ro rc S N rs) (hl:qs.length≤214748364):qs.length*tr S.length+4*tr S.length*8194≤1649267441664:=by
 have h1:=tr_le S.length h.bx.ls
 have h2:qs.length*tr S.length≤214748364*5461:=Nat.mul_le_mul hl h1
 have h3:4*tr S.length*8194≤4*5461*8194:=Nat.mul_le_mul_right _ (Nat.mul_le_mul_left _ h1)
 omega
theorem BoY.rebC (h:BoY w bb a x ro rc S N rs) (qo oo:Option Addr) (qc oc:Nat) (hz:ZAt w qo qs) (hzo:ZAt w oo o) (hl:qs.length≤214748364) (hol:o.length≤214748364):
 Calls Try.prog 12 #[.pointer (some ⟨a,0,none⟩),.slice qo qs.length qc,.slice oo o.length oc,.int .i64 most] w fun e w'=>RbC S o qs most N w e w':=by
 obtain⟨m,P,hc⟩:=h.bx.ca
 exact rebuildC_any qo oo qc oc hc hz hzo (by omega) (by omega) (fun hq=>h.sml hq)
theorem BoY.rebD (h:BoY w bb a x ro rc S N rs) (qo oo:Option Addr) (qc oc:Nat) (hz:ZAt w qo qs) (hzo:ZAt w oo o) (hl:qs.length≤214748364) (hol:o.length≤214748364):
 Calls Try.prog 36 #[.pointer (some ⟨x,0,none⟩),.slice qo qs.length qc,.slice oo o.length oc,.int .i64 most] w fun e w'=>RbD S o qs most N w e w':=by
 obtain⟨Q,hr⟩:=h.ra
 exact rebuildD_any h.bx.ok.sz h.bx.lc qo oo qc oc hr hz hzo (by omega) (by omega) (h.room hl)
theorem BoY.both (h:BoY w bb a x ro rc S N rs):Calls Try.prog 38 #[.pointer (some ⟨a,0,none⟩),.pointer (some ⟨x,0,none⟩)] w fun e w'=>e=.returned (.bool true)∧Below w.heap.size w w':=by
 obtain⟨m,P,hc⟩:=h.bx.ca
 obtain⟨Q,hr⟩:=h.ra
 exact both_any hc hr
theorem lentK (qo:Option Addr) (qc:Nat) (hl:qs.length≤214748364) (hz:ZAt w qo qs):
 Calls Try.prog 35 #[.slice qo qs.length qc] w fun e w'=>∃g,e=.returned (.slice (some ⟨g,0,none⟩) (qs.length+2) (qs.length+2))∧RwZ w' g (qs++[-77,-77])∧w.heap.size≤g∧Below w.heap.size w w':=lent_any qo qc (by omega) hz
theorem bsO_len {C:List Int→Int} (n:Nat):(bsO C (lows n) n).length=n:=by
 have:=(bsO_perm (c:=C) (o:=lows n) (n:=n) (fun k hk=>lows_mem.2 ⟨by omega,by omega⟩) n (Nat.le_refl _)).length_eq
 rw[this,lows_len]
def BsQ (b0:Nat) (w:World) (e:Ending) (I:List Int) (er:Int):Prop:=∃la lc,e=.returned (.tuple #[.slice la I.length lc,.int .i64 er])∧ZAt w la I∧∀k,la.map Addr.block=some k→b0≤k
theorem BsD.two {e:Ending} (h:BsD S qs most N w e w'):∃I er,BsQ w.heap.size w' e I er∧Below w.heap.size w w'∧((0≤most∧most≤8192∧∀f∈qs,hasR N f)→I=bsO (cN S (qs.map fun f p=>sayR N p f) most) (lows S.length) S.length∧er=0)∧(¬(0≤most∧most≤8192∧∀f∈qs,hasR N f)→I=[]∧er=1):=by
 obtain⟨hb,⟨h1,g,c,h2,h3,h4⟩|⟨h1,h2⟩⟩:=h
 ·exact⟨_,0,⟨some g,c,by rw[bsO_len];exact h2,h3,fun k hk=>by cases hk;exact h4⟩,hb,fun _=>⟨rfl,rfl⟩,fun h=>absurd h1 h⟩
 ·exact⟨[],1,⟨none,0,h2,.inl rfl,fun k hk=>by cases hk⟩,hb,fun h=>absurd h h1,fun _=>⟨rfl,rfl⟩⟩
end
theorem zeros_list (d:Nat):Builtin.zeroCells #[Value.int .i64 0] d=(zC (List.replicate d 0)).toArray:=by
 apply Array.ext'
 simp[Builtin.zeroCells,zC,Nat.mod_one,List.map_const']
theorem run_append_zeros (w:World) (b d:Nat) (ty:TypeId) (hb:w.cell? ⟨b,0,none⟩=some (.int .i64 1)) (hbl:b<w.heap.size) (hd:d≤255):∃g cap w',(Builtin.append_ #[22,3] ty #[.slice (some ⟨b,0,none⟩) 1 1,.int .i64 (d:Int)]).run Try.prog w=.ok (.slice (some ⟨g,0,none⟩) (1+d) cap) w'∧ZAt w' (some ⟨g,0,none⟩) (1::List.replicate d 0)∧Below w.heap.size w w':=by
 obtain⟨i3,hi3,hz30,hz31,hz32⟩:=info_parts Try.info3
 have hw:IntKind.i64.wrap (d:Int)=d:=by simp[IntKind.wrap,IntKind.bits,IntKind.signed];omega
 have hneg:¬((d:Int)<0):=by omega
 by_cases h0:d=0
 ·subst h0
  refine⟨b,1,w,?_,.inr ⟨b,0,rfl,hbl,fun i hi=>?_⟩,Below.refl _ _⟩
  ·simp[Builtin.append_,run_underlying Try.underlying22,run_underlying Try.underlying3,sizeOf,typeInfo,hi3,asInt,asIntOf,show IntKind.i64.wrap 0=0 from rfl,hz32,storeCells]
  ·have:i=0:=by simpa using hi
   subst this
   exact hb
 ·have hns:¬(1+d≤1):=by omega
  have hfc:=run_firstCells_some (P:=Try.prog) w.drew 1 1 ⟨b,0,none⟩ 1 1 [.int .i64 1] rfl (fun j u hj=>by
   match j,hj with
   |0,hj=>
    simp at hj
    subst hj
    exact hb)
  have h63:¬(9223372036854775807<((1:Int)+(d:Int))):=by omega
  have hcap:Builtin.nextslicecap (1+d) 1≤256:=by
   unfold Builtin.nextslicecap
   split
   ·omega
   ·split<;>omega
  have h48:¬(281474976710656<Builtin.nextslicecap (1+d) 1*8):=by omega
  have h48i:¬(281474976710656<(d:Int)*8):=by omega
  refine⟨w.heap.size,grownCap w (1+d) 1 3,w.drew.alloc (.cells (([Value.int .i64 1].toArray++Builtin.zeroCells #[Value.int .i64 0] d)++Builtin.zeroCells #[Value.int .i64 0] (grownCap w (1+d) 1 3-(1+d))) 3),?_,?_,?_⟩
  ·simp[Builtin.append_,run_underlying Try.underlying22,run_underlying Try.underlying3,sizeOf,typeInfo,zeroValue,hi3,hz30,hz31,hz32,asInt,asIntOf,hw,h0,hneg,hns,h63,h48,h48i,Question.forced,hfc,newRow,grownCap,Value.cells]
  ·have hb2:=heap_alloc_new w.drew (.cells (([Value.int .i64 1].toArray++Builtin.zeroCells #[Value.int .i64 0] d)++Builtin.zeroCells #[Value.int .i64 0] (grownCap w (1+d) 1 3-(1+d))) 3)
   have hbz:(w.drew.alloc (.cells (([Value.int .i64 1].toArray++Builtin.zeroCells #[Value.int .i64 0] d)++Builtin.zeroCells #[Value.int .i64 0] (grownCap w (1+d) 1 3-(1+d))) 3)).heap[w.heap.size]? =_:=hb2
   refine .inr ⟨w.heap.size,0,rfl,lt_of_block hbz,fun i hi=>?_⟩
   rw[Nat.zero_add,cell_of_row _ _ _ _ _ _ hbz,zeros_list,show [Value.int .i64 1].toArray++(zC (List.replicate d 0)).toArray=(zC (1::List.replicate d 0)).toArray by simp[zC],Array.getElem?_append_left (by simpa [zC] using hi),List.getElem?_toArray,zC_get _ hi]
  ·exact al ((Below.refl _ w).drew) _
structure OkR (b0:Nat) (w:World) (c g y:Nat) (lx:Option Addr) (lcx:Nat) (T:List Int) (most:Int) (N2:List Nd) (P Q:Nat→Prop) (I:List Int):Prop where
 zl:RwZ w g I
 row:w.ownsRow b0 3 1 (.slice lx I.length lcx) I.length (zC I)
 ca:CA w c T most N2 N2.length P
 ra:RA w y T most N2 Q
 pb:∀k,P k→b0≤k
 pg:¬P g
 gb:b0≤g
 qb:∀k,Q k→b0≤k
section
variable {b0:Nat} {w w' wd w3 w4:World} {c g y:Nat} {lx:Option Addr} {lcx:Nat} {S T o qs I:List Int} {most:Int} {N N2:List Nd} {P Q F:Nat→Prop} {e:Ending}
theorem OkR.kept (h:OkR b0 w c g y lx lcx T most N2 P Q I) (k:Kept F w w') (hF:∀j,F j→j<b0):OkR b0 w' c g y lx lcx T most N2 P Q I:=
 ⟨h.zl.kept k (fun hf=>by have:=hF _ hf;have:=h.gb;omega),own_kept h.row k (fun j hj hf=>by have:=hF _ hf;have:=(own_low h.row hj).1;omega),h.ca.kept k (fun j hj hf=>by have:=hF _ hf;have:=h.pb _ hj;omega),h.ra.kept k (fun j hj hf=>by have:=hF _ hf;have:=h.qb _ hj;omega),h.pb,h.pg,h.gb,h.qb⟩
def ReC (S o qs:List Int) (most:Int) (N:List Nd) (w w':World) (pa la:Option Addr) (ln lc:Nat) (er:Int):Prop:=
 ((0≤most∧most≤8192∧∀f∈qs,hasR N f)∧IsOrd S o∧er=0∧lc=ln∧ln=qs.length∧∃c g outs N2 P,pa=some ⟨c,0,none⟩∧la=some ⟨g,0,none⟩∧foldF S most (qs.map fun f p=>sayR N p f) o=(outs,0,N2)∧RwZ w' g outs∧CA w' c (ledS S o) most N2 N2.length P∧(∀k,P k→w.heap.size≤k)∧¬P g∧w.heap.size≤g)∨
 (((0≤most∧most≤8192∧∀f∈qs,hasR N f)∧IsOrd S o∧er=2∧(foldF S most (qs.map fun f p=>sayR N p f) o).2.1≠0∨¬((0≤most∧most≤8192∧∀f∈qs,hasR N f)∧IsOrd S o)∧er=1)∧pa=none∧la=none∧ln=0)
theorem RbC.one (h:RbC S o qs most N w e w'):∃pa la ln lc er,e=.returned (.tuple #[.pointer pa,.slice la ln lc,.int .i64 er])∧Below w.heap.size w w'∧ReC S o qs most N w w' pa la ln lc er:=by
 obtain⟨hb,⟨c,g,gc,outs,N2,P,h1,h2,rfl,h3,h4,h5,h6,h7,h8,h9⟩|⟨h1,h2,rfl,h3⟩|⟨h1,rfl⟩⟩:=h
 ·exact⟨_,_,_,_,_,rfl,hb,.inl ⟨h1,h2,rfl,h9,rfl,c,g,outs,N2,P,rfl,rfl,h3,h4,h5,h6,h7,h8⟩⟩
 ·exact⟨_,_,_,_,_,rfl,hb,.inr ⟨.inl ⟨h1,h2,rfl,h3⟩,rfl,rfl,rfl⟩⟩
 ·exact⟨_,_,_,_,_,rfl,hb,.inr ⟨.inr ⟨h1,rfl⟩,rfl,rfl,rfl⟩⟩
theorem re_two {pa la:Option Addr} {ln lc:Nat} {er:Int} (hS:SzOk S) (hc:ReC S o qs most N wd w3 pa la ln lc er) (h3:wd.heap.size≤w3.heap.size) (hd:RbD S o qs most N w3 e w4):
 ∃px lx lcx I,e=.returned (.tuple #[.pointer px,.slice lx ln lcx,.int .i64 er])∧Below w3.heap.size w3 w4∧ln=I.length∧I.length≤qs.length∧
  ((∃c g y N2 P Q,pa=some ⟨c,0,none⟩∧la=some ⟨g,0,none⟩∧px=some ⟨y,0,none⟩∧lc=I.length∧SzOk (ledS S o)∧OkR wd.heap.size w4 c g y lx lcx (ledS S o) most N2 P Q I)∨(pa=none∧px=none∧la=none∧lx=none∧I=[])):=by
 obtain⟨hb,hd⟩:=hd
 rcases hc with⟨m1,o1,rfl,rfl,rfl,c,g,outs,N2,P,rfl,rfl,f1,z1,c1,p1,p2,p3⟩|⟨hn,rfl,rfl,rfl⟩
 ·rcases hd with⟨y,oa,oc,outs2,N3,Q,m2,o2,rfl,f2,r2,q2,row,_⟩|⟨_,_,rfl,he⟩|⟨hx,rfl⟩
  ·rw[f1] at f2
   cases f2
   have hl:outs.length=qs.length:=by have:=row.1;simpa [zC] using this
   refine⟨_,oa,oc,outs,rfl,hb,hl.symm,by omega,.inl ⟨c,g,y,N2,P,Q,rfl,rfl,rfl,hl.symm,ledS_ok hS o1,z1.below hb,?_,c1.below hb,r2,p1,p2,p3,fun k hk=>Nat.le_trans h3 (q2 k hk)⟩⟩
   rw[hl]
   exact own_mono row h3
  ·rw[f1] at he
   exact absurd rfl he
  ·exact absurd ⟨m1,o1⟩ hx
 ·rcases hd with⟨y,oa,oc,outs2,N3,Q,m2,o2,rfl,f2,_⟩|⟨m2,o2,rfl,he⟩|⟨hx,rfl⟩
  ·rcases hn with⟨_,_,_,h⟩|⟨h,_⟩
   ·rw[f2] at h
    exact absurd rfl h
   ·exact absurd ⟨m2,o2⟩ h
  ·rcases hn with⟨_,_,rfl,_⟩|⟨h,_⟩
   ·exact⟨none,none,0,[],rfl,hb,rfl,Nat.zero_le _,.inr ⟨rfl,rfl,rfl,rfl,rfl⟩⟩
   ·exact absurd ⟨m2,o2⟩ h
  ·rcases hn with⟨m2,o2,_⟩|⟨_,rfl⟩
   ·exact absurd ⟨m2,o2⟩ hx
   ·exact⟨none,none,0,[],rfl,hb,rfl,Nat.zero_le _,.inr ⟨rfl,rfl,rfl,rfl,rfl⟩⟩
theorem may_first {d:Nat} (hT:SzOk T) (hd:T.getD 0 0=(d:Int)+1):May T N2 0 (1::List.replicate d 0):=by
 have h0:=hT.ge
 have lv:∀f:Int,f=0∨f=1→hasR N2 f∧(0:Int)<lvl T N2 f:=fun f hf=>by
  have h2:f<2:=by omega
  refine⟨⟨by omega,by omega⟩,?_⟩
  unfold lvl
  rw[if_neg (by omega)]
  omega
 refine⟨Int.le_refl _,by omega,by rw[Int.toNat_zero,hd];simp,fun f hf=>lv f ?_⟩
 rcases List.mem_cons.1 hf with h|h
 ·exact .inr h
 ·exact .inl (List.eq_of_mem_replicate h)
theorem mk_err {lv f er:Int} {ks:List Int} {N':List Nd} (hm:May T N2 lv ks) (h:MkP T most N2 lv ks f er N'):er=0∨er=2:=by
 rcases h with⟨h1,_⟩|⟨_,_,_,h,_⟩|⟨_,_,_,h,_⟩|⟨_,_,_,_,_,h,_⟩|⟨_,_,_,_,_,h,_⟩
 ·exact absurd hm h1
 ·exact .inl h
 ·exact .inl h
 ·exact .inr h
 ·exact .inl h
end
end Go.Proofs.Ytnddhkhmbjeefaa

