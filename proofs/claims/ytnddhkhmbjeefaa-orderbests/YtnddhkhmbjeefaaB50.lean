/-
  nodes by its contract: two arenas of the same nodes. Condition: both arenas.
-/
import Derived.Test.YtnddhkhmbjeefaaB48
import Derived.Test.YtnddhkhmbjeefaaB37
import Derived.Test.YtnddhkhmbjeefaaB49
import Derived.Test.YtnddhkhmbjeefaaB38
import Derived.Deep.DeepCutAuto
import Derived.Deep.CutBlock
namespace Go.Proofs.Ytnddhkhmbjeefaa
open Go.RowKit Go.Lib Go.Maps
section
variable {w:World} {a x:Nat} {S:List Int} {M:Int} {N:List Nd} {m:Nat} {P Q:Nat→Prop}
set_option maxRecDepth 100000 in
theorem mostC_any (h:CA w a S M N m P):Calls Try.prog 67 #[.pointer (some ⟨a,0,none⟩)] w fun e w'=>e=.returned (.int .i64 M)∧w'=w:=by
 obtain⟨R,sb,sc,nv,mb,h1,rfl⟩:=h
 obtain⟨c0,c1,c2,c3⟩:=h1.cells
 clear h1 c0 c2 c3
 go_enter Try.func67,Try.ntmps67
 go_wp2
 go_ret
 exact⟨rfl,rfl⟩
set_option maxRecDepth 100000 in
theorem mostD_any (h:RA w x S M N Q):Calls Try.prog 68 #[.pointer (some ⟨x,0,none⟩)] w fun e w'=>e=.returned (.int .i64 M)∧w'=w:=by
 obtain⟨sb,sc,_,c1,_,_⟩:=h.fields
 clear h
 go_enter Try.func68,Try.ntmps68
 go_wp2
 go_ret
 exact⟨rfl,rfl⟩
set_option maxRecDepth 100000 in
set_option maxHeartbeats 4000000 in
theorem both_any (hC:CA w a S M N m P) (hR:RA w x S M N Q):Calls Try.prog 38 #[.pointer (some ⟨a,0,none⟩),.pointer (some ⟨x,0,none⟩)] w fun e w'=>e=.returned (.bool true)∧Below w.heap.size w w':=by
 have hN:=hR.ok.few
 have hM:=hR.m8
 have HC:=hide hC
 have HR:=hide hR
 have hS12:=hR.ok.sz.le
 obtain⟨nn,hnn⟩:∃nn,N.length=nn:=⟨_,rfl⟩
 have HNN:=hide hnn
 have hn8:nn≤8192:=by omega
 clear hC hR hnn
 have SZC:=hide HC.out.sizes
 have SZD:Hid (∀V,Below w.heap.size w V→Calls Try.prog 11 #[.pointer (some ⟨x,0,none⟩)] V fun e w'=>∃g c,e=.returned (.slice (some ⟨g,0,none⟩) S.length c)∧ZBk w' g S∧V.heap.size≤g∧Below V.heap.size V w'):=fun V hV=>sizesD_any (HR.out.below hV)
 have LC:Hid (∀V,Below w.heap.size w V→Calls Try.prog 20 #[.pointer (some ⟨a,0,none⟩)] V fun e w'=>e=.returned (.int .i64 (nn:Int))∧w'=V):=fun V hV=>by have:=(HC.out.below hV).len;rw[HNN.out] at this;exact this
 have LD:Hid (∀V,Below w.heap.size w V→Calls Try.prog 26 #[.pointer (some ⟨x,0,none⟩)] V fun e w'=>e=.returned (.int .i64 (nn:Int))∧w'=V):=fun V hV=>by have:=(HR.out.below hV).len;rw[HNN.out] at this;exact this
 have MC:Hid (∀V,Below w.heap.size w V→Calls Try.prog 67 #[.pointer (some ⟨a,0,none⟩)] V fun e w'=>e=.returned (.int .i64 M)∧w'=V):=fun V hV=>mostC_any (HC.out.below hV)
 have MD:Hid (∀V,Below w.heap.size w V→Calls Try.prog 68 #[.pointer (some ⟨x,0,none⟩)] V fun e w'=>e=.returned (.int .i64 M)∧w'=V):=fun V hV=>mostD_any (HR.out.below hV)
 go_enter Try.func38,Try.ntmps38
 go_upto_region 2 with(first
  |(go_at_call 17;refine SZC.out.mono ?_;clear SZC;rintro e w1 h1;obtain⟨⟨g,c,rfl,_,zc,_⟩,x1⟩:=h1;have X1:=hide x1;have ZC:=hide zc.at;clear zc x1)
  |(go_at_call 11;refine(SZD.out w1 X1.out).mono ?_;clear SZD;rintro e w2 ⟨g2,c2,rfl,zb,_,x2⟩;have X2:=hide (bt X1.out x2 (Nat.le_refl _));have ZD:=hide zb;have ZC2:=hide (ZC.out.below x2);clear zb x2)
  |(go_at_call 23;refine(ints_any (some ⟨g,0,none⟩) (some ⟨g2,0,none⟩) c c2 S S w2 (by omega) ZC2.out ZD.out.at).mono ?_;rintro e w3 ⟨rfl,x3⟩;have X3:=hide (bt X2.out x3 (Nat.le_refl _));rw[show decide (S=S)=true by simp];clear x3))
 clear ZC ZD ZC2 X1 X2
 have NOD:Hid (∀i (hi:i<N.length),∃(lv:Int) (ks:List Int),ks.length≤140737488351232∧(∀V,Below w.heap.size w V→Calls Try.prog 45 #[.pointer (some ⟨a,0,none⟩),.int .i64 ((i:Int)+2)] V fun e w'=>∃g c,e=.returned (.tuple #[.agg #[.int .i64 lv,.slice (some ⟨g,0,none⟩) ks.length c],.int .i64 0])∧ZBk w' g ks∧Below V.heap.size V w')∧∀V,Below w.heap.size w V→Calls Try.prog 69 #[.pointer (some ⟨x,0,none⟩),.int .i64 ((i:Int)+2)] V fun e w'=>∃g c,e=.returned (.tuple #[.agg #[.int .i64 lv,.slice (some ⟨g,0,none⟩) ks.length c],.int .i64 0])∧ZBk w' g ks∧Below V.heap.size V w'):=fun i hi=>by
  have key:∀(V:World) (e:Ending) (w':World),NdL N ((i:Int)+2) V e w'→∃g c,e=.returned (.tuple #[.agg #[.int .i64 (N[i]).1,.slice (some ⟨g,0,none⟩) (N[i]).2.length c],.int .i64 0])∧ZBk w' g (N[i]).2∧Below V.heap.size V w':=fun V e w' ⟨hor,hb⟩=>by
   rcases hor with⟨i',lv,ks',g,c,h1,h2,h3,_,h5,_⟩|⟨h1,_⟩
   ·have e1:i'=i:=by omega
    subst e1
    rw[List.getElem?_eq_getElem hi] at h1
    have e2:=Option.some.inj h1
    rw[e2]
    exact⟨g,c,h3,h5,hb⟩
   ·exact absurd ⟨by omega,by omega⟩ h1
  exact⟨(N[i]).1,(N[i]).2,(HR.out.ok.may hi).few HR.out.ok.sz,fun V hV=>((HC.out.below hV).node _).mono (fun e w' h=>key V e w' h),fun V hV=>((HR.out.below hV).node _).mono (fun e w' h=>key V e w' h)⟩
 go_upto_region 4 with(first
  |(go_at_call 20;refine(LC.out w3 X3.out).mono ?_;rintro e w4 ⟨rfl,rfl⟩)
  |(go_at_call 26;refine(LD.out _ X3.out).mono ?_;rintro e w5 ⟨rfl,rfl⟩)
  |(go_at_call 67;refine(MC.out _ X3.out).mono ?_;rintro e w6 ⟨rfl,rfl⟩)
  |(go_at_call 68;refine(MD.out _ X3.out).mono ?_;rintro e w7 ⟨rfl,rfl⟩))
 have XW:=X3
 clear LC MC MD X3
 go_upto_block 0 with fail
 go_wp2
 go_loopw [6] (fun v wr=>∃k:Nat,k≤nn∧v=.int .i64 ((k:Int)+2)∧Hid (Below w.heap.size w wr)) (fun v _=>nn+2-(RowKit.intOf v).toNat)
 case atStart=>exact⟨0,Nat.zero_le _,rfl,XW⟩
 case round=>
  obtain⟨k,hk,rfl,BL⟩:=hrel
  clear XW
  have LDR:=hide (LD.out wr BL.out)
  by_cases hlt:k<nn
  ·obtain⟨lv,ks,hks,n1,n2⟩:=NOD.out k (by rw[HNN.out];exact hlt)
   have N1:=hide (n1 wr BL.out)
   have N2:=hide n2
   clear n1 n2
   obtain⟨f,hf⟩:∃f:Nat,(k:Int)+2=(f:Int):=⟨k+2,by omega⟩
   have hfk:f=k+2:=by omega
   rw[hf] at N1 N2 ⊢
   have hlt':(f:Int)<(nn:Int)+2:=by omega
   have hfn:f≤8194:=by omega
   have HFK:=hide hfk
   clear hf hfk
   go_upto_region 8 with(first
    |(go_at_call 26;refine LDR.out.mono ?_;clear LDR;rintro e w5 ⟨rfl,rfl⟩)
    |(go_at_call 45;refine N1.out.mono ?_;clear N1;rintro e w6 ⟨gc,cc,rfl,zc,xc⟩;have ZC:=hide zc;have XC:=hide (bt BL.out xc (Nat.le_refl _));clear zc xc))
   have YA:Hid (Below w6.heap.size w6 (w6.alloc (.cells #[.int .i64 lv,.slice (some ⟨gc,0,none⟩) ks.length cc] 86))):=al (Below.refl _ _) _
   have BA:=hide (heap_alloc_new w6 (.cells #[.int .i64 lv,.slice (some ⟨gc,0,none⟩) ks.length cc] 86))
   generalize w6.alloc (.cells #[.int .i64 lv,.slice (some ⟨gc,0,none⟩) ks.length cc] 86)=wa at *
   obtain⟨bn,hbn⟩:∃bn,w6.heap.size=bn:=⟨_,rfl⟩
   rw[hbn] at BA ⊢
   clear hbn
   have XA:=hide (bt XC.out YA.out (Nat.le_refl _))
   have ZA:=hide (ZC.out.below YA.out)
   clear ZC XC YA
   go_upto_region 9 with(go_at_call 69;refine(N2.out wa XA.out).mono ?_;clear N2;rintro e w7 ⟨gd,cd,rfl,zd,xd⟩;have ZD:=hide zd;have YD:=hide xd;clear zd xd)
   have YB:Hid (Below w7.heap.size w7 (w7.alloc (.cells #[.int .i64 lv,.slice (some ⟨gd,0,none⟩) ks.length cd] 86))):=al (Below.refl _ _) _
   have BB:=hide (heap_alloc_new w7 (.cells #[.int .i64 lv,.slice (some ⟨gd,0,none⟩) ks.length cd] 86))
   generalize w7.alloc (.cells #[.int .i64 lv,.slice (some ⟨gd,0,none⟩) ks.length cd] 86)=wb at *
   obtain⟨bm,hbm⟩:∃bm,w7.heap.size=bm:=⟨_,rfl⟩
   rw[hbm] at BB ⊢
   clear hbm
   have YAB:=hide (bt YD.out YB.out (Nat.le_refl _))
   have XB:=hide (bt XA.out YAB.out (Nat.le_refl _))
   have ZA2:=hide (ZA.out.below YAB.out)
   have ZD2:=hide (ZD.out.below YB.out)
   have BA2:Hid (wb.heap[bn]? =_):=(YAB.out.block bn (lt_of_block BA.out)).trans BA.out
   have CC:Hid (∀V,Below wb.heap.size wb V→V.cell? ⟨bn,0,none⟩=some (.int .i64 lv)∧V.cell? ⟨bn,1,none⟩=some (.slice (some ⟨gc,0,none⟩) ks.length cc)∧V.cell? ⟨bm,0,none⟩=some (.int .i64 lv)∧V.cell? ⟨bm,1,none⟩=some (.slice (some ⟨gd,0,none⟩) ks.length cd)):=fun V hV=>by
    have b1:=(hV.block bn (lt_of_block BA2.out)).trans BA2.out
    have b2:=(hV.block bm (lt_of_block BB.out)).trans BB.out
    refine⟨?_,?_,?_,?_⟩
    ·rw[cell_of_row V _ _ _ _ _ b1];rfl
    ·rw[cell_of_row V _ _ _ _ _ b1];rfl
    ·rw[cell_of_row V _ _ _ _ _ b2];rfl
    ·rw[cell_of_row V _ _ _ _ _ b2];rfl
   obtain⟨_,m1,_,m3⟩:=CC.out wb (Below.refl _ _)
   clear ZA ZD YD YB YAB BA BA2 BB XA
   go_upto_region 10 with(go_at_call 23;refine(ints_any (some ⟨gc,0,none⟩) (some ⟨gd,0,none⟩) cc cd ks ks wb hks ZA2.out.at ZD2.out.at).mono ?_;rintro e w8 ⟨rfl,xi⟩;have X8:=hide xi;have XI:=hide (bt XB.out xi (Nat.le_refl _));rw[show decide (ks=ks)=true by simp];clear xi)
   obtain⟨m0,_,m2,_⟩:=CC.out w8 X8.out
   clear ZA2 ZD2 XB BL CC X8 m1 m3
   go_wp2
   go_roundw
   case rel=>
    have hfk:=HFK.out
    subst hfk
    exact⟨k+1,by omega,by go_num,XI⟩
   case measure=>
    have hfk:=HFK.out
    simp[RowKit.intOf]
    omega
  ·have hlt':¬(k:Int)+2<(nn:Int)+2:=by omega
   go_wp2_with (go_at_call 26;refine LDR.out.mono ?_;clear LDR;rintro e w5 ⟨rfl,rfl⟩)
   go_ret
   exact⟨rfl,BL.out⟩
end
structure BoY (w:World) (bb a x:Nat) (ro:Option Addr) (rc:Nat) (S:List Int) (N:List Nd) (rs:List Int):Prop where
 bx:BoX w bb a (.pointer (some ⟨x,0,none⟩)) ro rc S 8192 N rs
 ra:∃Q,RA w x S 8192 N Q
 n4:N.length≤400
theorem tr_le:∀n,n≤7→tr n≤5461
 |0,_=>by decide
 |1,_=>by decide
 |2,_=>by decide
 |3,_=>by decide
 |4,_=>by decide
 |5,_=>by decide
 |6,_=>by decide
 |7,_=>by decide
 |n+8,h=>absurd h (by omega)
section
variable {w w':World} {bb a x:Nat} {ro:Option Addr} {rc:Nat} {S:List Int} {N:List Nd} {rs qs o:List Int} {most:Int}
theorem BoY.below (h:BoY w bb a x ro rc S N rs) (y:Below w.heap.size w w'):BoY w' bb a x ro rc S N rs:=by
 obtain⟨Q,hr⟩:=h.ra
 exact⟨h.bx.below y,⟨Q,hr.below y⟩,h.n4⟩
theorem BoY.cells (h:BoY w bb a x ro rc S N rs):w.cell? ⟨bb,0,none⟩=some (.pointer (some ⟨a,0,none⟩))∧w.cell? ⟨bb,1,none⟩=some (.pointer (some ⟨x,0,none⟩))∧w.cell? ⟨bb,2,none⟩=some (.slice ro rs.length rc):=
 ⟨by rw[cell_of_row w _ _ _ _ _ h.bx.blk];rfl,by rw[cell_of_row w _ _ _ _ _ h.bx.blk];rfl,by rw[cell_of_row w _ _ _ _ _ h.bx.blk];rfl⟩
theorem BoY.sml (h:BoY w bb a x ro rc S N rs) (hq:∀f∈qs,hasR N f):Sml S (qs.map fun f p=>sayR N p f):=
 ⟨h.bx.ls,h.bx.lc,(List.range (N.length+2)).map (fun(f:Nat) p=>sayR N p (f:Int)),by have:=h.n4;simp;omega,fun φ hφ=>by
   obtain⟨f,hf,rfl⟩:=List.mem_map.1 hφ
   obtain⟨h1,h2⟩:=hq f hf
   exact List.mem_map.2 ⟨f.toNat,List.mem_range.2 (by omega),by funext p;rw[Int.toNat_of_nonneg h1]⟩⟩
theorem BoY.room (h:BoY w bb a x ro rc S N rs) (hl:qs.length≤214748364):qs.length*tr S.length+4*tr S.length*8194≤1649267441664:=by
 have h1:=tr_le S.length h.bx.ls
 have h2:qs.length*tr S.length≤214748364*5461:=Nat.mul_le_mul hl h1
 have h3:4*tr S.length*8194≤4*5461*8194:=Nat.mul_le_mul_right _ (Nat.mul_le_mul_left _ h1)
 omega
theorem BoY.besC (h:BoY w bb a x ro rc S N rs) (qo:Option Addr) (qc:Nat) (hz:ZAt w qo qs) (hl:qs.length≤214748364):
 Calls Try.prog 15 #[.pointer (some ⟨a,0,none⟩),.slice qo qs.length qc,.int .i64 most] w fun e w'=>BsD S qs most N w e w':=by
 obtain⟨m,P,hc⟩:=h.bx.ca
 exact bestC_any qo qc hc hz (by omega) (fun hq=>h.sml hq)
theorem BoY.besD (h:BoY w bb a x ro rc S N rs) (qo:Option Addr) (qc:Nat) (hz:ZAt w qo qs) (hl:qs.length≤214748364):
 Calls Try.prog 41 #[.pointer (some ⟨x,0,none⟩),.slice qo qs.length qc,.int .i64 most] w fun e w'=>BsD S qs most N w e w':=by
 obtain⟨Q,hr⟩:=h.ra
 exact bestD_any h.bx.ok.sz h.bx.lc qo qc hr hz (by omega) (h.room hl)
theorem BoY.both (h:BoY w bb a x ro rc S N rs):Calls Try.prog 38 #[.pointer (some ⟨a,0,none⟩),.pointer (some ⟨x,0,none⟩)] w fun e w'=>e=.returned (.bool true)∧Below w.heap.size w w':=by
 obtain⟨m,P,hc⟩:=h.bx.ca
 obtain⟨Q,hr⟩:=h.ra
 exact both_any hc hr
theorem lentK (qo:Option Addr) (qc:Nat) (hl:qs.length≤214748364) (hz:ZAt w qo qs):
 Calls Try.prog 35 #[.slice qo qs.length qc] w fun e w'=>∃g,e=.returned (.slice (some ⟨g,0,none⟩) (qs.length+2) (qs.length+2))∧RwZ w' g (qs++[-77,-77])∧w.heap.size≤g∧Below w.heap.size w w':=lent_any qo qc (by omega) hz
theorem bsO_len {C:List Int→Int} (n:Nat):(bsO C (lows n) n).length=n:=by
 have:=(bsO_perm (c:=C) (o:=lows n) (n:=n) (fun k hk=>lows_mem.2 ⟨by omega,by omega⟩) n (Nat.le_refl _)).length_eq
 rw[this,lows_len]
def BsQ (b0:Nat) (w:World) (e:Ending) (I:List Int) (er:Int):Prop:=∃la lc,e=.returned (.tuple #[.slice la I.length lc,.int .i64 er])∧ZAt w la I∧∀k,la.map Addr.block=some k→b0≤k
theorem BsD.two {e:Ending} (h:BsD S qs most N w e w'):∃I er,BsQ w.heap.size w' e I er∧Below w.heap.size w w'∧((0≤most∧most≤8192∧∀f∈qs,hasR N f)→I=bsO (cN S (qs.map fun f p=>sayR N p f) most) (lows S.length) S.length∧er=0)∧(¬(0≤most∧most≤8192∧∀f∈qs,hasR N f)→I=[]∧er=1):=by
 obtain⟨hb,⟨h1,g,c,h2,h3,h4⟩|⟨h1,h2⟩⟩:=h
 ·exact⟨_,0,⟨some g,c,by rw[bsO_len];exact h2,h3,fun k hk=>by cases hk;exact h4⟩,hb,fun _=>⟨rfl,rfl⟩,fun h=>absurd h1 h⟩
 ·exact⟨[],1,⟨none,0,h2,.inl rfl,fun k hk=>by cases hk⟩,hb,fun h=>absurd h h1,fun _=>⟨rfl,rfl⟩⟩
end
section
variable {w:World} {bb a x:Nat} {so:Option Addr} {bc:Nat} {S:List Int} {N:List Nd} {rs qs:List Int} {most:Int}
set_option maxRecDepth 100000 in
set_option maxHeartbeats 8000000 in
theorem bests_any (h:BoY w bb a x so bc S N rs) (qo:Option Addr) (qc:Nat) (hq:ZAt w qo qs) (hql:qs.length≤214748364):
 Calls Try.prog 16 #[.pointer (some ⟨bb,0,none⟩),.slice qo qs.length qc,.int .i64 most] w fun e w'=>e=.returned (.bool true)∧Below w.heap.size w w':=by
 have HB:=hide h
 have HQ:=hide hq
 have L1:=hide (lentK qo qc hql hq)
 obtain⟨n1,hn1⟩:∃n1,qs.length+2=n1:=⟨_,rfl⟩
 have HN1:=hide hn1
 rw[hn1] at L1
 have i1:(qs.length:Int)≤(n1:Int):=by omega
 clear h hq hn1
 go_enter Try.func16,Try.ntmps16
 go_upto_region 2 with(go_at_call 35;refine L1.out.mono ?_;clear L1;rintro e w2 ⟨gr,rfl,zr,hgr,x2⟩;have ZR2:=hide zr;have GR2:=hide hgr;have X2:=hide x2;clear zr hgr x2)
 have XD:Hid (Below w2.heap.size w2 w2.drew):=(Below.refl _ w2).drew
 refine wp_unt (S:=fun V=>V.cell? ⟨bb,0,none⟩=some (.pointer (some ⟨a,0,none⟩))) 14 (by kernel_rfl) ?_
 generalize w2.drew=wd at *
 have BD:Hid (Below w.heap.size w wd):=bt X2.out XD.out (Nat.le_refl _)
 have HS0:=hide (HB.out.below BD.out).cells.1
 have BES:Hid (Calls Try.prog 15 #[.pointer (some ⟨a,0,none⟩),.slice (some ⟨gr,0,none⟩) qs.length n1,.int .i64 most] wd fun e w'=>BsD S qs most N wd e w'):=(HB.out.below BD.out).besC _ _ (lent_zat (ZR2.out.below XD.out)).1 hql
 refine UntH.tk 0 rfl 18 HS0.out (fun w' q0=>by go_simp;first|done|rfl) ?_
 refine UntH.tk 1 rfl 19 HS0.out (fun w' q0=>by go_simp;first|done|rfl) ?_
 refine UntH.tk 2 rfl 20 HS0.out (fun w' q0=>by go_simp;first|done|rfl) ?_
 refine UntH.tk 3 rfl 21 HS0.out (fun w' q0=>by go_simp;first|done|rfl) ?_
 refine UntH.tk 4 rfl 22 HS0.out (fun w' q0=>by go_simp;first|done|rfl) ?_
 refine UntH.tk 5 rfl 23 HS0.out (fun w' q0=>by go_simp;first|done|rfl) ?_
 refine UntH.tk 6 rfl 24 HS0.out (fun w' q0=>by go_simp;first|done|rfl) ?_
 refine UntH.tk 7 rfl 25 HS0.out (fun w' q0=>by go_simp;first|done|rfl) ?_
 refine UntH.tk 8 rfl 26 HS0.out (fun w' q0=>by go_simp;first|done|rfl) ?_
 try simp only[Act.put,List.setIfInBounds_toArray,List.set_cons_zero,List.set_cons_succ]
 refine UntH.step (i:=9) (by kernel_rfl) rfl (fun K hK=>?_)
 go_simp
 refine BES.out.mono ?_
 rintro e w3 hrb
 obtain⟨I,er,⟨la,lc,rfl,zl,fl⟩,x3,hy,hn⟩:=hrb.two
 have X3:=hide x3
 have HY:=hide hy
 have HNO:=hide hn
 have ZL3:=hide zl
 have FL3:=hide fl
 have B3:Hid (Below w.heap.size w w3):=bt BD.out x3 (Nat.le_refl _)
 have HS1:=hide (HB.out.below B3.out).cells.1
 clear hrb hy hn zl fl x3
 refine hK _ _ HS1.out ?_
 clear hK K
 refine UntH.tk 10 rfl 17 HS1.out (fun w' q0=>by go_simp;first|done|rfl) ?_
 refine UntH.tk 11 rfl 28 HS1.out (fun w' q0=>by go_simp;first|done|rfl) ?_
 refine UntH.tk 12 rfl 29 HS1.out (fun w' q0=>by go_simp;first|done|rfl) ?_
 refine UntH.tk 13 rfl 8 HS1.out (fun w' q0=>by go_simp;first|done|rfl) ?_
 try simp only[Act.put,List.setIfInBounds_toArray,List.set_cons_zero,List.set_cons_succ]
 refine UntH.last (by kernel_rfl) rfl (by kernel_rfl) (by kernel_rfl) (fun K hK=>?_)
 go_simp
 refine hK _ _ ?_
 clear hK K HS0 HS1 BES
 obtain⟨-,bx1,-⟩:=(HB.out.below B3.out).cells
 have BED:Hid (Calls Try.prog 41 #[.pointer (some ⟨x,0,none⟩),.slice qo qs.length qc,.int .i64 most] w3 fun e w'=>BsD S qs most N w3 e w'):=(HB.out.below B3.out).besD _ _ (HQ.out.below B3.out) hql
 go_upto_region 4 with(go_at_call 41;refine BED.out.mono ?_;clear BED;rintro e w4 hrd;obtain⟨J,er2,⟨lx,lcx,rfl,zx,fx⟩,x4,hy,hn⟩:=hrd.two;have X4:=hide x4;have ZX4:=hide zx;have FX4:=hide fx;have HY2:=hide hy;have HNO2:=hide hn;clear hrd x4 zx fx hy hn)
 have SAME:Hid (J=I∧er2=er):=by
  by_cases hm:0≤most∧most≤8192∧∀f∈qs,hasR N f
  ·have h1:=HY.out hm
   have h2:=HY2.out hm
   exact⟨h2.1.trans h1.1.symm,h2.2.trans h1.2.symm⟩
  ·have h1:=HNO.out hm
   have h2:=HNO2.out hm
   exact⟨h2.1.trans h1.1.symm,h2.2.trans h1.2.symm⟩
 have ILN:Hid (I.length≤12):=by
  have h12:=HB.out.bx.ok.sz.le
  by_cases hm:0≤most∧most≤8192∧∀f∈qs,hasR N f
  ·rw[(HY.out hm).1]
   unfold Hid
   rw[bsO_len]
   exact h12
  ·rw[(HNO.out hm).1]
   exact Nat.zero_le _
 obtain⟨rfl,rfl⟩:=SAME.out
 clear bx1 HY HNO HY2 HNO2 SAME
 have Z24:Hid (Below w2.heap.size w2 w4):=bt XD.out (bt X3.out X4.out (Nat.le_refl _)) (Nat.le_refl _)
 have ZR4:=hide (ZR2.out.below Z24.out)
 have ZL4:=hide (ZL3.out.below X4.out)
 have B4:Hid (Below w.heap.size w w4):=bt B3.out X4.out (Nat.le_refl _)
 have KP1:=hide (kept_any qo qc (by omega) (HQ.out.below B4.out) ZR4.out)
 rw[HN1.out] at KP1
 have NG:Hid (gr<w2.heap.size∧w2.heap.size≤wd.heap.size∧wd.heap.size≤w3.heap.size):=⟨ZR2.out.lt,XD.out.size,X3.out.size⟩
 go_upto_region 5 with(go_at_call 37;refine KP1.out.mono ?_;clear KP1;rintro e w5 ⟨rfl,k5⟩;have K5:=hide k5;clear k5)
 have B5:Hid (Below w.heap.size w w5):=B4.out.trans (K5.out.below B4.out.size (fun k hk=>by rw[hk];exact GR2.out))
 have ZL5:Hid (ZAt w5 la J):=ZL4.out.kept K5.out (fun b hb e=>by have h1:=FL3.out b hb;have h2:=NG.out;omega)
 have ZX5:Hid (ZAt w5 lx J):=ZX4.out.kept K5.out (fun b hb e=>by have h1:=FX4.out b hb;have h2:=NG.out;omega)
 have INT:Hid (Calls Try.prog 23 #[.slice la J.length lc,.slice lx J.length lcx] w5 fun e w'=>e=.returned (.bool true)∧Below w5.heap.size w5 w'):=by
  have:=ints_any la lx lc lcx J J w5 (by have:=ILN.out;omega) ZL5.out ZX5.out
  rw[show decide (J=J)=true by simp] at this
  exact this
 clear ZR2 ZL3 ZX4 FL3 FX4 ZR4 ZL4 X2 X3 X4 XD BD B3 Z24 NG GR2 K5 ZL5 ZX5 HQ HN1
 go_upto_region 6 with(go_at_call 23;refine INT.out.mono ?_;clear INT;rintro e w7 ⟨rfl,x7⟩;have B7:Hid (Below w.heap.size w w7):=bt B5.out x7 (Nat.le_refl _);clear x7)
 have XD:Hid (Below w7.heap.size w7 w7.drew):=(Below.refl _ w7).drew
 refine wp_unt (S:=fun V=>V.cell? ⟨bb,0,none⟩=some (.pointer (some ⟨a,0,none⟩))∧V.cell? ⟨bb,1,none⟩=some (.pointer (some ⟨x,0,none⟩))) 9 (by kernel_rfl) ?_
 generalize w7.drew=wd2 at *
 have BD2:Hid (Below w.heap.size w wd2):=bt B7.out XD.out (Nat.le_refl _)
 have HS0:Hid ((fun V=>V.cell? ⟨bb,0,none⟩=some (.pointer (some ⟨a,0,none⟩))∧V.cell? ⟨bb,1,none⟩=some (.pointer (some ⟨x,0,none⟩))) wd2):=⟨(HB.out.below BD2.out).cells.1,(HB.out.below BD2.out).cells.2.1⟩
 have BTH:=hide (HB.out.below BD2.out).both
 refine UntH.tk 0 rfl 46 HS0.out (fun w' ⟨q0,q1⟩=>by go_simp;first|done|rfl) ?_
 refine UntH.tk 1 rfl 47 HS0.out (fun w' ⟨q0,q1⟩=>by go_simp;first|done|rfl) ?_
 refine UntH.tk 2 rfl 48 HS0.out (fun w' ⟨q0,q1⟩=>by go_simp;first|done|rfl) ?_
 refine UntH.tk 3 rfl 49 HS0.out (fun w' ⟨q0,q1⟩=>by go_simp;first|done|rfl) ?_
 refine UntH.tk 4 rfl 50 HS0.out (fun w' ⟨q0,q1⟩=>by go_simp;first|done|rfl) ?_
 refine UntH.tk 5 rfl 51 HS0.out (fun w' ⟨q0,q1⟩=>by go_simp;first|done|rfl) ?_
 refine UntH.tk 6 rfl 52 HS0.out (fun w' ⟨q0,q1⟩=>by go_simp;first|done|rfl) ?_
 refine UntH.tk 7 rfl 53 HS0.out (fun w' ⟨q0,q1⟩=>by go_simp;first|done|rfl) ?_
 try simp only[Act.put,List.setIfInBounds_toArray,List.set_cons_zero,List.set_cons_succ]
 refine UntH.step (i:=8) (by kernel_rfl) rfl (fun K hK=>?_)
 go_simp
 refine BTH.out.mono ?_
 rintro e w8 ⟨rfl,y1⟩
 have Bw8:Hid (Below w.heap.size w w8):=bt BD2.out y1 (Nat.le_refl _)
 have Kw8:Hid (Below w7.heap.size w7 w8):=bt XD.out y1 (Nat.le_refl _)
 clear y1
 refine hK _ _ ⟨(HB.out.below Bw8.out).cells.1,(HB.out.below Bw8.out).cells.2.1⟩ ?_
 clear hK K
 refine UntH.last (by kernel_rfl) rfl (by kernel_rfl) (by kernel_rfl) (fun K hK=>?_)
 go_simp
 refine hK _ _ ?_
 clear hK K HS0 BTH XD BD2
 go_wp2
 go_ret
 exact⟨rfl,Bw8.out⟩
end
end Go.Proofs.Ytnddhkhmbjeefaa

