/-
  The code's Right by its contract. Condition: lists no longer than a process can hold.
-/
import Derived.Test.YtdgoilkgplnhfaaGreatJ31
namespace Go.Proofs.YtdgoilkgplnhfaaGreat
open Go.RowKit Go.Lib
def qay (bs:By) (NZ OZ:List Int):Prop:=OZ.length≤256∧∃NX OU,NZ=zN NX∧OZ=zN OU∧qbv bs NX OU∧(dfA bs NX OU).Right
theorem qa2 {A B:List Nat} (h:zN A=zN B):A=B:=List.map_inj_right (fun _ _ h4=>Int.ofNat.inj h4)|>.1 h
theorem qdv {bs:By} {NX OU:List Nat} (h:qbv bs NX OU) (hr:(dfA bs NX OU).Right):qcr bs (zN NX) (zN OU):=by
 have l1:(zN NX).length=NX.length:=by unfold zN;rw[List.length_map]
 have l2:(zN OU).length=OU.length:=by unfold zN;rw[List.length_map]
 have hlt:∀x∈ntL bs,x<NX.length/OU.length:=fun x hx=>by
  obtain⟨y,hy,rfl⟩:=List.mem_map.1 hx;obtain⟨i,hi,rfl⟩:=List.mem_iff_getElem.1 hy;have:=h.bw i (by rw[←h.bl];exact hi);rw[List.getD_eq_getElem?_getD,List.getElem?_eq_getElem hi] at this;exact this
 have hmx:mxL (ntL bs)+1=NX.length/OU.length:=by
  have h0:mxL (ntL bs)<NX.length/OU.length:=by
   have key:∀(L:List Nat) (a:Nat),a<NX.length/OU.length→(∀x∈L,x<NX.length/OU.length)→L.foldl max a<NX.length/OU.length:=by
    intro L
    induction L with
    |nil=>intro a ha _;exact ha
    |cons y L ih=>
     intro a ha hx;rw[List.foldl_cons];have:=hx y List.mem_cons_self;exact ih _ (by omega) (fun z hz=>hx z (List.mem_cons_of_mem _ hz))
   exact key _ 0 hr.toOk.W0 hlt
  have hw0:0<NX.length/OU.length:=hr.toOk.W0;obtain⟨b,hb,e⟩:=hr.cols (NX.length/OU.length-1) (by show _<NX.length/OU.length;omega);have e1:(bs.getD b 0).toNat=NX.length/OU.length-1:=e;have hbl:b<bs.length:=by rw[h.bl];exact hb
  rw[List.getD_eq_getElem?_getD,List.getElem?_eq_getElem hbl] at e1;have h2:((some bs[b]).getD 0).toNat≤mxL (ntL bs):=qjz (ntL bs) _ (List.mem_map.2 ⟨_,List.getElem_mem hbl,rfl⟩);omega
 refine⟨h.bl,by rw[l2];exact h.n0,by rw[l2];exact h.n1,by rw[l1,l2,hmx];exact h.wl,List.any_eq_false.2 (fun z hz=>?_),List.any_eq_false.2 (fun z hz=>?_)⟩
 ·obtain⟨x,hx,rfl⟩:=List.mem_map.1 hz
  have:=h.nl x hx;unfold qdg;rw[l2];simp;omega
 ·obtain⟨x,hx,rfl⟩:=List.mem_map.1 hz
  have:=h.lb x hx;have hl:Lab ((x:Nat):Int):=⟨by omega,by omega⟩;unfold nlB;simp[hl]
theorem qej {bs bs':By} {NX OU NX' OU':List Nat} {base:Nat} {xv ov:Value} {w:World} (hM:qbv bs NX OU) (hn:OU.length≤256) (d:qol bs NX OU base bs' xv ov NX' OU' w):qay bs (zN NX) (zN OU)↔(bs=bs'∧NX=NX'∧OU=OU'):=by
 constructor
 ·rintro⟨_,A,B,e1,e2,h1,h2⟩
  obtain rfl:=qa2 e1;obtain rfl:=qa2 e2;exact qd3 hM d.may h2 d.rt d.lb
 ·rintro⟨rfl,rfl,rfl⟩
  exact⟨by unfold zN;rw[List.length_map];exact hn,NX,OU,rfl,rfl,hM,d.rt⟩
theorem qdq {bs:By} {NX OU:List Nat} (h:qcm (dfA bs NX OU)):¬qay bs (zN NX) (zN OU):=by
 rintro⟨hl,A,B,e1,e2,h1,h2⟩;obtain rfl:=qa2 e1;obtain rfl:=qa2 e2;have:=h _ h2.toOk (fun t _=>rfl);have h9:257≤OU.length:=this;unfold zN at hl;rw[List.length_map] at hl;omega
set_option maxRecDepth 100000 in
set_option maxHeartbeats 4000000 in
theorem qby (bs:By) (na oa:Option Addr) (nc oc:Nat) (NZ OZ:List Int) (w:World) (hnl:NZ.length≤140737488351232) (hol:OZ.length≤140737488351232) (hnx:ZAt w na NZ) (hou:ZAt w oa OZ):
 Calls Tryz.prog 16 #[auV bs na NZ.length nc oa OZ.length oc] w fun e w'=>qdm (qay bs NZ OZ) e∧Below w.heap.size w w':=by
 have X1:Below w.heap.size w (w.alloc (.cells #[.string ⟨bs.toArray⟩,.slice na NZ.length nc,.slice oa OZ.length oc] 24)):=al (Below.refl _ _) _;have B1:=heap_alloc_new w (.cells #[.string ⟨bs.toArray⟩,.slice na NZ.length nc,.slice oa OZ.length oc] 24);obtain⟨w1,hw1⟩:∃w1,w1=w.alloc (.cells #[.string ⟨bs.toArray⟩,.slice na NZ.length nc,.slice oa OZ.length oc] 24):=⟨_,rfl⟩;rw[←hw1] at X1 B1;have HC:Hid (∀V,Below w1.heap.size w1 V→V.cell? ⟨w.heap.size,0,none⟩=some (.string ⟨bs.toArray⟩)∧V.cell? ⟨w.heap.size,1,none⟩=some (.slice na NZ.length nc)∧V.cell? ⟨w.heap.size,2,none⟩=some (.slice oa OZ.length oc)∧ZAt V na NZ∧ZAt V oa OZ):=fun V x=>by
  have Bv:=(x.block _ (lt_of_block B1)).trans B1;exact⟨by rw[cell_of_row _ _ _ _ _ _ Bv];rfl,by rw[cell_of_row _ _ _ _ _ _ Bv];rfl,by rw[cell_of_row _ _ _ _ _ _ Bv];rfl,hnx.below (bt X1 x (Nat.le_refl _)),hou.below (bt X1 x (Nat.le_refl _))⟩
 have HX1:=qaa X1;obtain⟨c0,c1,c2,kx,ko⟩:=HC.out w1 (Below.refl _ _);have HMB:=qaa (qja bs na oa nc oc NZ OZ w1 hnl hol kx ko);clear X1 B1 hnx hou kx ko;unfold auV at HMB ⊢;by_cases h1:(256:Int)<(OZ.length:Int)
 ·have HN:Hid (¬qay bs NZ OZ):=fun h=>by have:=h.1;omega
  have h1d:decide ((256:Int)<(OZ.length:Int))=true:=by simpa using h1
  go_enter Tryz.func16,Tryz.ntmps16;go_upto_region 1 with fail
  rw[←hw1];clear hw1;go_wp2;go_ret;exact⟨⟨false,rfl,⟨fun h=>(by cases h),fun h=>absurd h HN.out⟩⟩,HX1.out⟩
 ·have h1d:decide ((256:Int)<(OZ.length:Int))=false:=by simpa using h1
  go_enter Tryz.func16,Tryz.ntmps16;go_upto_region 1 with fail
  rw[←hw1];clear hw1;go_wp2_with (fail);refine HMB.out.mono ?_;rintro e w3 ⟨⟨b,rfl,hb⟩,x3⟩;have HBB:=qaa hb;have X3:=qaa x3;clear HMB c0 c1 c2 hb x3;obtain⟨c0,c1,c2,kx,ko⟩:=HC.out w3 X3.out;cases b with
  |false=>
   have HN:Hid (¬qay bs NZ OZ):=fun⟨_,A,B,e1,e2,h2,h3⟩=>by
    have:=HBB.out.2 (by rw[e1,e2];exact qdv h2 h3);cases this
   have Xf:=qaa (bt HX1.out X3.out (Nat.le_refl _));clear kx ko;go_wp2;go_ret;exact⟨⟨false,rfl,⟨fun h=>(by cases h),fun h=>absurd h HN.out⟩⟩,Xf.out⟩
  |true=>
   as_aux_lemma=>
    obtain⟨NX,OU,rfl,rfl,hM⟩:=qj0 (HBB.out.1 rfl);have ln:(zN NX).length=NX.length:=by unfold zN;rw[List.length_map]
    have lo:(zN OU).length=OU.length:=by unfold zN;rw[List.length_map]
    have HOF:=qaa (qcf bs na oa nc oc NX OU w3 hM kx.nat ko.nat);have KN:=qaa kx.nat;have KO:=qaa ko.nat;have hn256:OU.length≤256:=by rw[lo] at h1;omega
    unfold auV at HOF;rw[←ln,←lo] at HOF;have HMM:=qaa hM;have HN256:=qaa hn256;have HLN:=qaa ln;have HLO:=qaa lo;have hnx':NX.length≤140737488351232:=by rw[←ln];exact hnl
    clear kx ko ln lo hM hn256 h1 h1d;go_wp2_with (fail);refine HOF.out.mono ?_;rintro e w4 ⟨hP,x4⟩;have X4:=qaa (bt X3.out x4 (Nat.le_refl _));have KN4:=qaa (KN.out.below x4);have KO4:=qaa (KO.out.below x4);clear HOF c0 c1 c2 x4;obtain⟨c0,c1,c2,_,_⟩:=HC.out w4 X4.out;have lw:w.heap.size<w4.heap.size:=by
     have:w.heap.size<w1.heap.size:=by
      have:=HX1.out.size;rcases Nat.lt_or_ge w.heap.size w1.heap.size with h9|h9
      ·exact h9
      ·have h8:=(HC.out w1 (Below.refl _ _)).1
       have h7:=World.block_lt_of_cell? w1 ⟨w.heap.size,0,none⟩ h8;exact h7
     exact Nat.lt_of_lt_of_le this X4.out.size
    have n1:¬w.heap.size=w4.heap.size:=by omega
    have hsne:∀(c d:By),¬c=d→¬(⟨c.toArray⟩:ByteArray)=⟨d.toArray⟩:=fun c d h e=>h (by injection e with e;simpa using congrArg Array.toList e)
    have XF:=qaa (bt HX1.out X4.out (Nat.le_refl _));have HSN:=qaa hsne;clear hsne;rcases hP with⟨bs',xa,xn,xc,oa',on,oc',rfl,NX',OU',hd⟩|⟨rfl,hno⟩
    ·obtain rfl:xn=NX'.length:=hd.rws.shape (j:=0) (by simp) rfl
     obtain rfl:on=OU'.length:=hd.rws.shape (j:=1) (by simp) rfl;have HIF:=qaa (qej HMM.out HN256.out hd);have KX':=qaa ((hd.rws.own 0 (by simp)).nat:NAt w4 xa NX');have KO':=qaa ((hd.rws.own 1 (by simp)).nat:NAt w4 oa' OU');clear hd;unfold auV;have x5:Below w4.heap.size w4 (w4.alloc (.cells #[.string ⟨bs'.toArray⟩,.slice xa NX'.length xc,.slice oa' OU'.length oc'] 24)):=al (Below.refl _ _) _;have B5:=heap_alloc_new w4 (.cells #[.string ⟨bs'.toArray⟩,.slice xa NX'.length xc,.slice oa' OU'.length oc'] 24);have HX5:=qaa x5;have HB5:=qaa B5;have HC5:=qaa (HC.out (w4.alloc (.cells #[.string ⟨bs'.toArray⟩,.slice xa NX'.length xc,.slice oa' OU'.length oc'] 24)) (bt X4.out x5 (Nat.le_refl _)));clear x5 B5 c0 c1 c2;go_upto_region 4 with fail
     generalize w4.alloc (.cells #[.string ⟨bs'.toArray⟩,.slice xa NX'.length xc,.slice oa' OU'.length oc'] 24)=w5 at *;obtain⟨c0,c1,c2,_,_⟩:=HC5.out;have e0:w5.cell? ⟨w4.heap.size,0,none⟩=some (.string ⟨bs'.toArray⟩):=by rw[cell_of_row _ _ _ _ _ _ HB5.out];rfl
     have e1:w5.cell? ⟨w4.heap.size,1,none⟩=some (.slice xa NX'.length xc):=by rw[cell_of_row _ _ _ _ _ _ HB5.out];rfl
     have e2:w5.cell? ⟨w4.heap.size,2,none⟩=some (.slice oa' OU'.length oc'):=by rw[cell_of_row _ _ _ _ _ _ HB5.out];rfl
     have X5:=qaa (bt XF.out HX5.out (Nat.le_refl _));by_cases hbs:bs=bs'
     ·subst hbs
      have HEQ:=qaa (qf2 na xa nc xc NX NX' w5 hnx' (KN4.out.below HX5.out) (KX'.out.below HX5.out));rw[←HLN.out] at HEQ;go_wp2_with (fail);refine HEQ.out.mono ?_;rintro e w6 ⟨⟨b1,rfl,hb1⟩,x6⟩;have HB1:=qaa hb1;have X6:=qaa (bt X5.out x6 (Nat.le_refl _));have l4:w4.heap.size<w5.heap.size:=lt_of_block HB5.out;have f2:=(x6.cell (p:=⟨w.heap.size,2,none⟩) (Nat.lt_trans lw l4)).trans c2;have f4:=(x6.cell (p:=⟨w4.heap.size,2,none⟩) l4).trans e2;have KO6:=qaa ((KO4.out.below HX5.out).below x6);have KO6':=qaa ((KO'.out.below HX5.out).below x6);clear HEQ c0 c1 c2 e0 e1 e2 hb1 x6;cases b1 with
      |false=>
       have HNR:Hid (¬qay bs (zN NX) (zN OU)):=fun h=>by have:=HB1.out.2 (HIF.out.1 h).2.1;cases this
       go_wp2;go_ret;exact⟨⟨false,rfl,⟨fun h=>(by cases h),fun h=>absurd h HNR.out⟩⟩,X6.out⟩
      |true=>
       have HTT:=qaa (HB1.out.1 rfl);have hou':OU.length≤140737488351232:=by have:=HN256.out;omega
       have HEQ2:=qaa (qf2 oa oa' oc oc' OU OU' w6 hou' KO6.out KO6'.out);rw[←HLO.out] at HEQ2;go_wp2_with (fail);refine HEQ2.out.mono ?_;rintro e w7 ⟨⟨b2,rfl,hb2⟩,x7⟩;have HT:Hid (b2=true↔qay bs (zN NX) (zN OU)):=⟨fun h=>HIF.out.2 ⟨by first|trivial|rfl,HTT.out,hb2.1 h⟩,fun h=>hb2.2 (HIF.out.1 h).2.2⟩;have X7:=qaa (bt X6.out x7 (Nat.le_refl _));clear HEQ2 hb2 x7 f2 f4;go_wp2;go_ret;exact⟨⟨b2,rfl,HT.out⟩,X7.out⟩
     ·have HNR:Hid (¬qay bs (zN NX) (zN OU)):=fun h=>hbs (HIF.out.1 h).1
      have s1:=HSN.out bs bs' hbs;go_wp2;go_ret;exact⟨⟨false,rfl,⟨fun h=>(by cases h),fun h=>absurd h HNR.out⟩⟩,X5.out⟩
    ·have HNR:=qaa (qdq hno)
     clear hno;unfold auV;have x5:Below w4.heap.size w4 (w4.alloc (.cells #[.string ⟨([]:By).toArray⟩,.slice none 0 0,.slice none 0 0] 24)):=al (Below.refl _ _) _;have B5:=heap_alloc_new w4 (.cells #[.string ⟨([]:By).toArray⟩,.slice none 0 0,.slice none 0 0] 24);have HX5:=qaa x5;have HB5:=qaa B5;have HC5:=qaa (HC.out (w4.alloc (.cells #[.string ⟨([]:By).toArray⟩,.slice none 0 0,.slice none 0 0] 24)) (bt X4.out x5 (Nat.le_refl _)));clear x5 B5 c0 c1 c2;go_upto_region 4 with fail
     generalize w4.alloc (.cells #[.string ⟨([]:By).toArray⟩,.slice none 0 0,.slice none 0 0] 24)=w5 at *;obtain⟨c0,c1,c2,_,_⟩:=HC5.out;have e0:w5.cell? ⟨w4.heap.size,0,none⟩=some (.string ⟨([]:By).toArray⟩):=by rw[cell_of_row _ _ _ _ _ _ HB5.out];rfl
     have X5:=qaa (bt XF.out HX5.out (Nat.le_refl _));have hbs:¬bs=[]:=fun h=>by have:=HMM.out.bl;rw[h] at this;cases this
     have s1:=HSN.out bs [] hbs;have s3:bs.isEmpty=false:=by cases bs with|nil=>exact absurd rfl hbs|cons _ _=>rfl
     go_wp2;go_ret;exact⟨⟨false,rfl,⟨fun h=>(by cases h),fun h=>absurd h HNR.out⟩⟩,X5.out⟩
def RunP (bs:By) (NZ OZ:List Int) (t:By) (e:Ending):Prop:=
 (¬qay bs NZ OZ∧e=.returned (.tuple #[.int .i64 0,.int .i64 1]))∨∃NX OU,NZ=zN NX∧OZ=zN OU∧qbv bs NX OU∧(dfA bs NX OU).Right∧OU.length≤256∧e=.returned (.tuple #[.int .i64 ((dfA bs NX OU).lab 0 (ntL t)),.int .i64 0])
theorem qc2 (t:By):Txt (ntL t):=fun b hb=>by
 obtain⟨y,_,rfl⟩:=List.mem_map.1 hb;exact y.toNat_lt
theorem qls (t:By) {i:Nat} (h:i<t.length):ntL (t.take (i+1))=ntL (t.take i)++[(t[i]).toNat]:=by
 unfold ntL;rw[List.take_succ_eq_append_getElem h,List.map_append];rfl
set_option maxRecDepth 100000 in
set_option maxHeartbeats 4000000 in
theorem qnm (bs:By) (na oa:Option Addr) (nc oc:Nat) (NZ OZ:List Int) (t:By) (w:World) (hnl:NZ.length≤140737488351232) (hol:OZ.length≤140737488351232) (htl:t.length≤140737488351232) (hnx:ZAt w na NZ) (hou:ZAt w oa OZ):
 Calls Tryz.prog 27 #[auV bs na NZ.length nc oa OZ.length oc,.string ⟨t.toArray⟩] w fun e w'=>RunP bs NZ OZ t e∧Below w.heap.size w w':=by
 have X1:Below w.heap.size w (w.alloc (.cells #[.string ⟨bs.toArray⟩,.slice na NZ.length nc,.slice oa OZ.length oc] 24)):=al (Below.refl _ _) _;have B1:=heap_alloc_new w (.cells #[.string ⟨bs.toArray⟩,.slice na NZ.length nc,.slice oa OZ.length oc] 24);obtain⟨w1,hw1⟩:∃w1,w1=w.alloc (.cells #[.string ⟨bs.toArray⟩,.slice na NZ.length nc,.slice oa OZ.length oc] 24):=⟨_,rfl⟩;rw[←hw1] at X1 B1;have hlw:=lt_of_block B1;have HC:Hid (∀V,Below w1.heap.size w1 V→V.cell? ⟨w.heap.size,0,none⟩=some (.string ⟨bs.toArray⟩)∧V.cell? ⟨w.heap.size,1,none⟩=some (.slice na NZ.length nc)∧V.cell? ⟨w.heap.size,2,none⟩=some (.slice oa OZ.length oc)∧ZAt V na NZ∧ZAt V oa OZ):=fun V x=>by
  have Bv:=(x.block _ hlw).trans B1;exact⟨by rw[cell_of_row _ _ _ _ _ _ Bv];rfl,by rw[cell_of_row _ _ _ _ _ _ Bv];rfl,by rw[cell_of_row _ _ _ _ _ _ Bv];rfl,hnx.below (bt X1 x (Nat.le_refl _)),hou.below (bt X1 x (Nat.le_refl _))⟩
 have HX1:=qaa X1;obtain⟨c0,c1,c2,kx,ko⟩:=HC.out w1 (Below.refl _ _);have HR:=qaa (qby bs na oa nc oc NZ OZ w1 hnl hol kx ko);clear X1 B1 hnx hou kx ko;unfold auV at HR ⊢;go_enter Tryz.func27,Tryz.ntmps27;go_upto_region 1 with fail
 rw[←hw1];clear hw1;go_wp2_with (fail);refine HR.out.mono ?_;rintro e w3 ⟨⟨b,rfl,hb⟩,x3⟩;have HBB:=qaa hb;have X3:=qaa x3;clear HR c0 c1 c2 hb x3;cases b with
 |false=>
  have HN:Hid (¬qay bs NZ OZ):=fun h=>by have:=HBB.out.2 h;cases this
  have Xf:=qaa (bt HX1.out X3.out (Nat.le_refl _));go_wp2;go_ret2;exact⟨.inl ⟨HN.out,rfl⟩,Xf.out⟩
 |true=>
  as_aux_lemma=>
   obtain⟨h256,NX,OU,rfl,rfl,hM,hRt⟩:=HBB.out.1 rfl;have ln:(zN NX).length=NX.length:=by unfold zN;rw[List.length_map]
   have lo:(zN OU).length=OU.length:=by unfold zN;rw[List.length_map]
   have HLN:=qaa ln;have HLO:=qaa lo;have HMM:=qaa hM;have HRT:=qaa hRt;have H256:Hid (OU.length≤256):=by unfold Hid;rw[←lo];exact h256
   clear ln lo hM hRt h256 HBB;have R0:Hid ((dfA bs NX OU).run 0 (ntL (t.take 0))<OU.length):=HMM.out.ok.run HMM.out.n0 (qc2 _);go_wp2;go_loopg [6,13] (t.length+1) (fun g s x wr=>∃i:Nat,x=.int .i64 (i:Nat)∧s=.int .i64 (((dfA bs NX OU).run 0 (ntL (t.take i)):Nat):Int)∧Hid (Below w1.heap.size w1 wr)∧i≤t.length∧t.length-i<g)
   case atStart=>exact⟨0,rfl,rfl,X3,by omega,by omega⟩
   case round=>
    obtain⟨i,rfl,rfl,X,hil,hg⟩:=hrel;have HG:=qaa hg;clear hg R0;obtain⟨c0,c1,c2,kx,ko⟩:=HC.out wr X.out;have hsl:=HMM.out.ok.run HMM.out.n0 (qc2 (t.take i));have hsl:(dfA bs NX OU).run 0 (ntL (t.take i))<OU.length:=hsl;by_cases hi:i<t.length
    ·have hi':(i:Int)<(t.length:Int):=by omega
     have hbl:=(t[i]).toNat_lt;have HNXT:Hid ((dfA bs NX OU).run 0 (ntL (t.take (i+1)))=(dfA bs NX OU).step ((dfA bs NX OU).run 0 (ntL (t.take i))) (t[i]).toNat):=by unfold Hid;rw[qls t hi,DF.run_snoc]
     obtain⟨y,hy⟩:∃y,t[i]=y:=⟨_,rfl⟩;have hgy:∀hk,(⟨t.toArray⟩:ByteArray)[i]'hk=y:=fun _=>hy
     rw[hy] at hbl HNXT;have hyb:y.toNat<bs.length:=by rw[HMM.out.bl];exact hbl
     have hcw:=HMM.out.bw y.toNat hbl;have hgd:bs.getD y.toNat 0=bs[y.toNat]:=by simp[List.getD_eq_getElem?_getD,hyb]
     rw[hgd] at hcw;have hq:=HMM.out.at hsl hcw;have HST:=fun V (kV:NAt V na NX)=>qer bs na oa nc oc OU.length ((dfA bs NX OU).run 0 (ntL (t.take i))) y.toNat (NX.length/OU.length) (bs[y.toNat]).toNat NX V (by rw[←HLN.out];exact hnl) HMM.out.n0 rfl hyb rfl hq kV
     have HSV:Hid (NX[(dfA bs NX OU).run 0 (ntL (t.take i))*(NX.length/OU.length)+(bs[y.toNat]).toNat]=(dfA bs NX OU).run 0 (ntL (t.take (i+1)))):=by
      unfold Hid;rw[HNXT.out,←qah hq,←hgd];rfl
     rw[HSV.out] at HST;unfold auV at HST;rw[←HLN.out,←HLO.out] at HST;have lw:w.heap.size<wr.heap.size:=Nat.lt_of_lt_of_le hlw X.out.size;have HDr:Hid (Below wr.heap.size wr wr.drew):=(Below.refl _ _).drew;have KN:=qaa kx.nat;have wy:IntKind.i64.wrap ((y.toNat:Nat):Int)=((y.toNat:Nat):Int):=qak _ (by omega);clear hy hgd kx ko HSV HNXT hcw hq hsl;generalize (dfA bs NX OU).run 0 (ntL (t.take i))=st at *;obtain⟨st2,hst2⟩:∃st2,st2=(dfA bs NX OU).run 0 (ntL (t.take (i+1))):=⟨_,rfl⟩;rw[←hst2] at HST;have HS2:=qaa hst2;clear hst2;go_wp2;refine wp_region_quiet (C:=fun w'=>Below wr.heap.size wr w') (by kernel_rfl) (by kernel_rfl) HDr.out ?_;refine QW.out (l:=_::_) ?_
     iterate 6 (refine QW.take (by rfl) ?_;apply Exists.intro;refine⟨fun w' hw'=>?_,?_⟩;(·(have g0:=(hw'.cell (p:=⟨w.heap.size,0,none⟩) lw).trans c0;have g1:=(hw'.cell (p:=⟨w.heap.size,1,none⟩) lw).trans c1;have g2:=(hw'.cell (p:=⟨w.heap.size,2,none⟩) lw).trans c2;go_simp;first|done|(first|done|rfl)));try simp only[Act.put,List.setIfInBounds_toArray,List.set_cons_zero,List.set_cons_succ])
     iterate 1 (refine QW.take (by rfl) ?_;apply Exists.intro;refine⟨fun w' hw'=>?_,?_⟩;(·(have g0:=(hw'.cell (p:=⟨w.heap.size,0,none⟩) lw).trans c0;have g1:=(hw'.cell (p:=⟨w.heap.size,1,none⟩) lw).trans c1;have g2:=(hw'.cell (p:=⟨w.heap.size,2,none⟩) lw).trans c2;go_simp;(refine(HST _ (KN.out.below hw')).mono ?_;rintro e w4 ⟨rfl,x4⟩;exact⟨rfl,hw'.trans (x4.mono hw'.size)⟩)));try simp only[Act.put,List.setIfInBounds_toArray,List.set_cons_zero,List.set_cons_succ])
     iterate 1 (refine QW.take (by rfl) ?_;apply Exists.intro;refine⟨fun w' hw'=>?_,?_⟩;(·(have g0:=(hw'.cell (p:=⟨w.heap.size,0,none⟩) lw).trans c0;have g1:=(hw'.cell (p:=⟨w.heap.size,1,none⟩) lw).trans c1;have g2:=(hw'.cell (p:=⟨w.heap.size,2,none⟩) lw).trans c2;go_simp;first|done|(first|done|rfl)));try simp only[Act.put,List.setIfInBounds_toArray,List.set_cons_zero,List.set_cons_succ])
     refine QW.nil ?_;intro w5 x5;have X5:=qaa (bt X.out x5 (Nat.le_refl _));clear x5 HDr c0 c1 c2 HST;go_wp2;go_roundg (t.length-(i+1)+1)
     case measure=>have:=HG.out;omega
     case rel=>exact⟨i+1,by first|rfl|go_num|(congr 1;omega),by rw[←HS2.out],X5,by omega,by omega⟩
    ·have hi':¬(i:Int)<(t.length:Int):=by omega
     obtain rfl:i=t.length:=by omega
     rw[List.take_length] at hsl;rw[List.take_length];obtain⟨ob,off,rfl,_,co⟩:=ko.nat.get hsl;rw[←qah hsl] at co;have HLAB:Hid ((((gN OU ((dfA bs NX OU).run 0 (ntL t)):Nat):Int))=(dfA bs NX OU).lab 0 (ntL t)):=rfl;have hs':(((dfA bs NX OU).run 0 (ntL t):Nat):Int)<((zN OU).length:Int):=by rw[HLO.out];omega
     have Xf:=qaa (bt HX1.out X.out (Nat.le_refl _));clear kx ko;go_wp2;go_ret2;exact⟨.inr ⟨NX,OU,rfl,rfl,HMM.out,HRT.out,H256.out,by rw[←HLAB.out];rfl⟩,Xf.out⟩
end Go.Proofs.YtdgoilkgplnhfaaGreat

