/-
  The document's Least by its contract: the one form, or that there is none. Condition: lists no longer than a process can hold.
-/
import Derived.Test.YtdgoilkgplnhfaaGreatJ41
import Derived.Test.YtdgoilkgplnhfaaGreatJ39
import Derived.Test.YtdgoilkgplnhfaaGreatJ42
import Derived.BigQuiet
import Derived.Test.YtdgoilkgplnhfaaGreatJ34
namespace Go.Proofs.YtdgoilkgplnhfaaGreat
open Go.RowKit Go.Lib
set_option maxRecDepth 100000 in
set_option maxHeartbeats 4000000 in
theorem qdi (bs:By) (na oa:Option Addr) (nc oc:Nat) (NZ OZ:List Int) (w:World) (hnl:NZ.length≤140737488351232) (hol:OZ.length≤140737488351232) (hnx:ZAt w na NZ) (hou:ZAt w oa OZ):
 Calls Tryz.prog 13 #[auV bs na NZ.length nc oa OZ.length oc] w fun e w'=>LeP bs NZ OZ w.heap.size e w'∧Below w.heap.size w w':=by
 obtain⟨w2,hw2⟩:∃w2,w2=(w.alloc (.cells #[.string ⟨bs.toArray⟩,.slice na NZ.length nc,.slice oa OZ.length oc] 24)).alloc (.cells #[.string ⟨#[]⟩,.slice none 0 0,.slice none 0 0] 24):=⟨_,rfl⟩;obtain⟨X2,B1,B2,hs2⟩:=qap w #[.string ⟨bs.toArray⟩,.slice na NZ.length nc,.slice oa OZ.length oc] #[.string ⟨#[]⟩,.slice none 0 0,.slice none 0 0] 24 24;rw[←hw2] at X2 B1 B2 hs2;have HC:Hid (∀V,Below w2.heap.size w2 V→V.cell? ⟨w.heap.size,0,none⟩=some (.string ⟨bs.toArray⟩)∧V.cell? ⟨w.heap.size,1,none⟩=some (.slice na NZ.length nc)∧V.cell? ⟨w.heap.size,2,none⟩=some (.slice oa OZ.length oc)∧V.heap[w.heap.size+1]? =some (.cells #[.string ⟨#[]⟩,.slice none 0 0,.slice none 0 0] 24 (0,0))∧ZAt V na NZ∧ZAt V oa OZ):=fun V x=>by
  have Bv:=(x.block _ (lt_of_block B1)).trans B1;exact⟨by rw[cell_of_row _ _ _ _ _ _ Bv];rfl,by rw[cell_of_row _ _ _ _ _ _ Bv];rfl,by rw[cell_of_row _ _ _ _ _ _ Bv];rfl,(x.block _ (lt_of_block B2)).trans B2,hnx.below (bt X2 x (Nat.le_refl _)),hou.below (bt X2 x (Nat.le_refl _))⟩
 have HX2:=qaa X2;have HS2:=qaa hs2;obtain⟨c0,c1,c2,_,kx,ko⟩:=HC.out w2 (Below.refl _ _);have HMB:=qaa (ql8 bs na oa nc oc NZ OZ w2 hnl hol kx ko);have HI:Hid ((Tryz.prog.info? 24).map (·.size)=some 3):=by unfold Hid;kernel_rfl
 clear X2 B1 B2 hs2 hnx hou kx ko;unfold auV at HMB ⊢;go_enter Tryz.func13,Tryz.ntmps13;go_upto_region 1 with fail
 rw[←hw2];clear hw2;go_wp2_with (fail);refine HMB.out.mono ?_;rintro e w3 ⟨⟨b,rfl,hb⟩,x3⟩;have HBB:=qaa hb;have X3:=qaa x3;clear HMB c0 c1 c2 hb x3;obtain⟨c0,c1,c2,B3,kx,ko⟩:=HC.out w3 X3.out;have HB3:=qaa B3;cases b with
 |false=>
  as_aux_lemma=>
   have A0:Hid ((#[.string ⟨#[]⟩,.slice none 0 0,.slice none 0 0]:Array Value).all (·.oneCell')=true):=by unfold Hid;simp[Value.oneCell']
   have B6:=setRow_heap w3 (w.heap.size+1) _ #[.string ⟨#[]⟩,.slice none 0 0,.slice none 0 0] 24 (0,0) B3;have k6:Kept (fun k=>k=w.heap.size+1) w3 (w3.setRow (w.heap.size+1) #[.string ⟨#[]⟩,.slice none 0 0,.slice none 0 0]):=qas;have x3:=bt HX2.out X3.out (Nat.le_refl _);have X6:=qaa (x3.trans (k6.below x3.size (fun b hb=>by omega)));have z0:=cell_of_row _ _ 0 _ _ _ B6;have z1:=cell_of_row _ _ 1 _ _ _ B6;have z2:=cell_of_row _ _ 2 _ _ _ B6;have HNM:Hid (¬qcr bs NZ OZ):=fun h=>by have:=HBB.out.2 h;cases this
   clear B6 k6 B3 x3 kx ko;go_wp2_with (refine wpList_store_row rfl 24 (.tmp 2) (.tmp 13) rfl (w.heap.size+1) #[.string ⟨#[]⟩,.slice none 0 0,.slice none 0 0] rfl rfl 24 #[.string ⟨#[]⟩,.slice none 0 0,.slice none 0 0] HB3.out HI.out rfl A0.out ?_);refine bodyPost_ret (by simp[results,Tryz.results13,go_sem,z0,z1,z2];try rfl) rfl ?_;exact⟨.inl ⟨HNM.out,rfl⟩,X6.out⟩
 |true=>
  as_aux_lemma=>
   have hMZ:=HBB.out.1 rfl;obtain⟨NX,OU,rfl,rfl,hM⟩:=qj0 hMZ;have ln:(zN NX).length=NX.length:=by unfold zN;rw[List.length_map]
   have lo:(zN OU).length=OU.length:=by unfold zN;rw[List.length_map]
   have hwm:NX.length/OU.length=mxL (ntL bs)+1:=hM.w (by have:=hMZ.2.2.2.1;rw[ln,lo] at this;exact this);rw[ln] at c1;rw[lo] at c2;have HC2:Hid (∀V,Below w2.heap.size w2 V→V.cell? ⟨w.heap.size,0,none⟩=some (.string ⟨bs.toArray⟩)∧V.cell? ⟨w.heap.size,1,none⟩=some (.slice na NX.length nc)∧V.cell? ⟨w.heap.size,2,none⟩=some (.slice oa OU.length oc)∧V.heap[w.heap.size+1]? =some (.cells #[.string ⟨#[]⟩,.slice none 0 0,.slice none 0 0] 24 (0,0))∧NAt V na NX∧NAt V oa OU):=fun V x=>by
    obtain⟨h0,h1,h2,h3,h4,h5⟩:=HC.out V x;rw[ln] at h1;rw[lo] at h2;exact⟨h0,h1,h2,h3,h4.nat,h5.nat⟩
   have HCD:=qaa (qka bs na oa NX.length nc OU.length oc w3 hM.bl);unfold auV at HCD;have HMM:=qaa hM;have HWM:=qaa hwm;have HMZ:=qaa hMZ;clear kx ko B3 HB3 hM hwm hMZ HBB HC;go_wp2_with (fail);refine HCD.out.mono ?_;rintro e w4 ⟨⟨ca,cc,C,BC,rfl,kc,hC⟩,x4⟩;have X4:=qaa (bt X3.out x4 (Nat.le_refl _));have KC:=qaa kc;have HCT:=qaa hC;clear HCD c0 c1 c2 kc hC x4;obtain⟨c0,c1,c2,-,kx,ko⟩:=HC2.out w4 X4.out;have hCl:=HCT.out.len;have HRD:=qaa (qlz bs na oa ca nc oc cc _ NX OU C w4 HMM.out rfl HWM.out HCT.out.of hCl kx KC.out);unfold auV at HRD;clear kx ko;go_wp2_with (fail);refine HRD.out.mono ?_;rintro e w5 ⟨⟨la,lc,l,rfl,kl,BL,hR⟩,x5⟩;have X5:=qaa (bt X4.out x5 (Nat.le_refl _));have KC5:=qaa (KC.out.below x5);have KL:=qaa kl;have HRS:=qaa hR;have HRT:=qaa (hR.done (fun b hb=>HCT.out.al b hb));clear HRD c0 c1 c2 kl hR x5 KC;obtain⟨c0,c1,c2,-,kx,ko⟩:=HC2.out w5 X5.out;have HPD:=qaa (ql4 bs na oa la ca nc oc lc cc _ NX OU l C w5 HMM.out rfl HWM.out HRT.out HRS.out.z.1 HRS.out.z.2 HRS.out.few HCT.out.of HCT.out.al hCl kx ko KL.out KC5.out);unfold auV at HPD;clear kx ko;go_wp2_with (fail);refine HPD.out.mono ?_;rintro e w6 ⟨hP,x6⟩;have X6:=qaa (bt X5.out x6 (Nat.le_refl _));have KL6:=qaa (KL.out.below x6);clear HPD c0 c1 c2 x6 KL KC5 hCl;obtain⟨c0,c1,c2,B6,kx,ko⟩:=HC2.out w6 X6.out;rcases hP with⟨pa,pc,m,rfl,hm,PL,kp,hpl,hd,heq⟩|⟨pa,pn,pc,rfl,hno⟩
   ·as_aux_lemma=>
    have hm':¬(256:Int)<(m:Int):=by omega
    have HND:=qaa (ql6 bs na oa la pa nc oc lc pc _ m NX OU l PL w6 HMM.out rfl HWM.out HRT.out HRS.out.z.2 HRS.out.few hpl hm hd heq kx ko KL6.out kp);unfold auV at HND;clear kx ko kp hd heq B6;go_wp2_with (fail);refine HND.out.mono ?_;rintro e w7 ⟨⟨bs',xa,xn,xc,oa',on,oc',rfl,NX',OU',d⟩,x7⟩;have X7:=qaa (bt X6.out x7 (Nat.le_refl _));obtain⟨-,-,-,B7,-,-⟩:=HC2.out w7 X7.out;have A4:Hid ((#[.string ⟨bs'.toArray⟩,.slice xa xn xc,.slice oa' on oc']:Array Value).all (·.oneCell')=true):=by unfold Hid;simp[Value.oneCell']
    have HB7:=qaa B7;have B8:=setRow_heap w7 (w.heap.size+1) _ #[.string ⟨bs'.toArray⟩,.slice xa xn xc,.slice oa' on oc'] 24 (0,0) B7;have k8:Kept (fun k=>k=w.heap.size+1) w7 (w7.setRow (w.heap.size+1) #[.string ⟨bs'.toArray⟩,.slice xa xn xc,.slice oa' on oc']):=qas;have x8:=bt HX2.out X7.out (Nat.le_refl _);have X8:=qaa (x8.trans (k8.below x8.size (fun b hb=>by omega)));have hs2:=HS2.out;have hs6:=X6.out.size;have hO:qhb bs NX OU w6.heap.size (.returned (.tuple #[auV bs' xa xn xc oa' on oc',.int .i64 0])) w7:=.inl ⟨bs',xa,xn,xc,oa',on,oc',rfl,NX',OU',d⟩;have HP8:=qaa (hO.kept k8 (by omega) (show w.heap.size≤w6.heap.size by omega));have z0:=cell_of_row _ _ 0 _ _ _ B8;have z1:=cell_of_row _ _ 1 _ _ _ B8;have z2:=cell_of_row _ _ 2 _ _ _ B8;clear B8 k8 B7 x8 x7 hO HND d c0 c1 c2;go_wp2_with (refine wpList_store_row rfl 24 (.tmp 2) (.tmp 33) rfl (w.heap.size+1) #[.string ⟨bs'.toArray⟩,.slice xa xn xc,.slice oa' on oc'] rfl rfl 24 #[.string ⟨#[]⟩,.slice none 0 0,.slice none 0 0] HB7.out HI.out rfl A4.out ?_);refine bodyPost_ret (by simp[results,Tryz.results13,go_sem,z0,z1,z2];try rfl) rfl ?_;exact⟨.inr ⟨NX,OU,rfl,rfl,HMM.out,HMZ.out,HP8.out⟩,X8.out⟩
   ·as_aux_lemma=>
    have A0:Hid ((#[.string ⟨#[]⟩,.slice none 0 0,.slice none 0 0]:Array Value).all (·.oneCell')=true):=by unfold Hid;simp[Value.oneCell']
    have HB6:=qaa B6;have B8:=setRow_heap w6 (w.heap.size+1) _ #[.string ⟨#[]⟩,.slice none 0 0,.slice none 0 0] 24 (0,0) B6;have k8:Kept (fun k=>k=w.heap.size+1) w6 (w6.setRow (w.heap.size+1) #[.string ⟨#[]⟩,.slice none 0 0,.slice none 0 0]):=qas;have x8:=bt HX2.out X6.out (Nat.le_refl _);have X8:=qaa (x8.trans (k8.below x8.size (fun b hb=>by omega)));have z0:=cell_of_row _ _ 0 _ _ _ B8;have z1:=cell_of_row _ _ 1 _ _ _ B8;have z2:=cell_of_row _ _ 2 _ _ _ B8;have HNO:=qaa hno;clear B8 k8 B6 x8 kx ko hno c0 c1 c2;go_wp2_with (refine wpList_store_row rfl 24 (.tmp 2) (.tmp 28) rfl (w.heap.size+1) #[.string ⟨#[]⟩,.slice none 0 0,.slice none 0 0] rfl rfl 24 #[.string ⟨#[]⟩,.slice none 0 0,.slice none 0 0] HB6.out HI.out rfl A0.out ?_);refine bodyPost_ret (by simp[results,Tryz.results13,go_sem,z0,z1,z2];try rfl) rfl ?_;exact⟨.inr ⟨NX,OU,rfl,rfl,HMM.out,HMZ.out,.inr ⟨rfl,HNO.out⟩⟩,X8.out⟩
theorem qkg {A B:List Int} (hl:A.length=B.length) (h:∀i (ha:i<A.length) (hb:i<B.length),A[i]=B[i]):A=B:=List.ext_getElem hl h
set_option maxRecDepth 100000 in
set_option maxHeartbeats 4000000 in
theorem qdd (bs cs:By) (xA oA xB oB:Option Addr) (xAc oAc xBc oBc:Nat) (NA OA NB OB:List Int) (w:World) (hn:NA.length≤140737488351232) (ho:OA.length≤140737488351232) (h1:ZAt w xA NA) (h2:ZAt w oA OA) (h3:ZAt w xB NB) (h4:ZAt w oB OB):
 Calls Tryz.prog 14 #[auV bs xA NA.length xAc oA OA.length oAc,auV cs xB NB.length xBc oB OB.length oBc] w fun e w'=>qdm (bs=cs∧NA=NB∧OA=OB) e∧Below w.heap.size w w':=by
 obtain⟨w2,hw2⟩:∃w2,w2=(w.alloc (.cells #[.string ⟨bs.toArray⟩,.slice xA NA.length xAc,.slice oA OA.length oAc] 24)).alloc (.cells #[.string ⟨cs.toArray⟩,.slice xB NB.length xBc,.slice oB OB.length oBc] 24):=⟨_,rfl⟩;obtain⟨X2,B1,B2,hs2⟩:=qap w #[.string ⟨bs.toArray⟩,.slice xA NA.length xAc,.slice oA OA.length oAc] #[.string ⟨cs.toArray⟩,.slice xB NB.length xBc,.slice oB OB.length oBc] 24 24;rw[←hw2] at X2 B1 B2 hs2;have HC:Hid (∀V,Below w2.heap.size w2 V→(V.cell? ⟨w.heap.size,0,none⟩=some (.string ⟨bs.toArray⟩)∧V.cell? ⟨w.heap.size,1,none⟩=some (.slice xA NA.length xAc)∧V.cell? ⟨w.heap.size,2,none⟩=some (.slice oA OA.length oAc))∧(V.cell? ⟨w.heap.size+1,0,none⟩=some (.string ⟨cs.toArray⟩)∧V.cell? ⟨w.heap.size+1,1,none⟩=some (.slice xB NB.length xBc)∧V.cell? ⟨w.heap.size+1,2,none⟩=some (.slice oB OB.length oBc))∧ZAt V xA NA∧ZAt V oA OA∧ZAt V xB NB∧ZAt V oB OB):=fun V x=>by
  have Bv:=(x.block _ (lt_of_block B1)).trans B1;have Bw:=(x.block _ (lt_of_block B2)).trans B2;have y:=bt X2 x (Nat.le_refl _);exact⟨⟨by rw[cell_of_row _ _ _ _ _ _ Bv];rfl,by rw[cell_of_row _ _ _ _ _ _ Bv];rfl,by rw[cell_of_row _ _ _ _ _ _ Bv];rfl⟩,⟨by rw[cell_of_row _ _ _ _ _ _ Bw];rfl,by rw[cell_of_row _ _ _ _ _ _ Bw];rfl,by rw[cell_of_row _ _ _ _ _ _ Bw];rfl⟩,h1.below y,h2.below y,h3.below y,h4.below y⟩
 have HX2:=qaa X2;have NOT:Hid (∀P:Prop,¬P→qdm P (.returned (.bool false))):=fun P h=>⟨false,rfl,by simp[h]⟩
 obtain⟨⟨c0,c1,c2⟩,⟨d0,d1,d2⟩,_⟩:=HC.out w2 (Below.refl _ _);clear X2 B1 B2 hs2 h1 h2 h3 h4;unfold auV;go_enter Tryz.func14,Tryz.ntmps14;go_upto_region 1 with fail
 rw[←hw2];clear hw2;by_cases hb:bs=cs
 case neg=>
  have hsn:¬(⟨bs.toArray⟩:ByteArray)=⟨cs.toArray⟩:=fun e=>hb (by injection e with e;simpa using congrArg Array.toList e)
  have HN:Hid (¬(bs=cs∧NA=NB∧OA=OB)):=fun h=>hb h.1
  go_wp2;go_ret;exact⟨NOT.out _ HN.out,HX2.out⟩
 subst hb;by_cases hl1:NA.length=NB.length
 case neg=>
  have b1:((NA.length:Int)!=(NB.length:Int))=true:=by simp;omega
  have HN:Hid (¬(bs=bs∧NA=NB∧OA=OB)):=fun h=>hl1 (by rw[h.2.1])
  go_wp2;go_ret;exact⟨NOT.out _ (fun h=>HN.out ⟨trivial,h⟩),HX2.out⟩
 by_cases hl2:OA.length=OB.length
 case neg=>
  have b1:((NA.length:Int)!=(NB.length:Int))=false:=by simp;omega
  have b2:((OA.length:Int)!=(OB.length:Int))=true:=by simp;omega
  have HN:Hid (¬(bs=bs∧NA=NB∧OA=OB)):=fun h=>hl2 (by rw[h.2.2])
  go_wp2;go_ret;exact⟨NOT.out _ (fun h=>HN.out ⟨trivial,h⟩),HX2.out⟩
 have HL1:=qaa hl1;have HL2:=qaa hl2;rw[←hl1] at d1;rw[←hl2] at d2;have HC2:Hid (∀V,Below w2.heap.size w2 V→(V.cell? ⟨w.heap.size,0,none⟩=some (.string ⟨bs.toArray⟩)∧V.cell? ⟨w.heap.size,1,none⟩=some (.slice xA NA.length xAc)∧V.cell? ⟨w.heap.size,2,none⟩=some (.slice oA OA.length oAc))∧(V.cell? ⟨w.heap.size+1,0,none⟩=some (.string ⟨bs.toArray⟩)∧V.cell? ⟨w.heap.size+1,1,none⟩=some (.slice xB NA.length xBc)∧V.cell? ⟨w.heap.size+1,2,none⟩=some (.slice oB OA.length oBc))∧ZAt V xA NA∧ZAt V oA OA∧ZAt V xB NB∧ZAt V oB OB):=fun V x=>by
  have:=HC.out V x;rw[←HL1.out,←HL2.out] at this;exact this
 clear hl1 hl2 HC;go_wp2;go_loopg [5] (NA.length+1) (fun g x wr=>∃k:Nat,x=.int .i64 (k:Nat)∧k≤NA.length∧Hid (Below w2.heap.size w2 wr)∧Hid (∀i (ha:i<NA.length) (hb:i<NB.length),i<k→NA[i]=NB[i])∧NA.length-k<g)
 case atStart=>exact⟨0,rfl,by omega,Below.refl _ _,fun i _ _ h=>by omega,by omega⟩
 case round=>
  obtain⟨k,rfl,hk1,X,HE,hg⟩:=hrel;have HG:=qaa hg;have XV:=qaa (bt HX2.out X.out (Nat.le_refl _));clear hg c0 c1 c2 d0 d1 d2;obtain⟨⟨c0,c1,c2⟩,⟨d0,d1,d2⟩,kxA,koA,kxB,koB⟩:=HC2.out wr X.out;by_cases hk:k<NA.length
  ·have hk':(k:Int)<(NA.length:Int):=by omega
   have hkB:k<NB.length:=by have:=HL1.out;omega
   obtain⟨pa,oa,rfl,ca⟩:=kxA.get hk;obtain⟨pb,ob,rfl,cb⟩:=kxB.get hkB;have HS:Hid (NA[k]=NB[k]→∀i (ha:i<NA.length) (hb:i<NB.length),i<k+1→NA[i]=NB[i]):=fun h i ha hb hik=>by
    rcases Nat.lt_or_ge i k with h1|h1
    ·exact HE.out i ha hb h1
    ·obtain rfl:i=k:=by omega
     exact h
   have HN:Hid (¬NA[k]=NB[k]→¬(bs=bs∧NA=NB∧OA=OB)):=fun h h'=>h (by have:=h'.2.1;subst this;rfl)
   clear kxA kxB koA koB HE;generalize NA[k]=x at *;generalize NB[k]=y at *;by_cases hxy:x=y
   ·subst hxy
    have bxy:(x !=x)=false:=by simp
    have HS2:=qaa (HS.out rfl);clear HS HN;go_wp2;go_quiet (fail);have X6:Hid (Below w2.heap.size w2 (wr.drewN nq)):=X.out.trans ⟨rfl,rfl,rfl,Nat.le_refl _,fun _ _=>rfl⟩;go_wp2;go_roundg (NA.length-(k+1)+1)
    case measure=>have:=HG.out;omega
    case rel=>exact⟨k+1,by first|rfl|go_num|(congr 1;omega),by omega,X6,HS2,by omega⟩
   ·have bxy:(x !=y)=true:=by simpa using hxy
    have HN2:=qaa (HN.out hxy);clear HS HN;go_wp2;go_quiet (fail);have X6:Hid (Below w.heap.size w (wr.drewN nq)):=XV.out.trans ⟨rfl,rfl,rfl,Nat.le_refl _,fun _ _=>rfl⟩;go_wp2;go_ret;exact⟨NOT.out _ (fun h=>HN2.out ⟨trivial,h⟩),X6.out⟩
  ·have hk':¬(k:Int)<(NA.length:Int):=by omega
   have HEN:Hid (NA=NB):=qkg HL1.out (fun i ha hb=>HE.out i ha hb (by omega));clear kxA kxB koA koB HE;go_wp2;go_loopg [6] (OA.length+1) (fun g x wr=>∃k:Nat,x=.int .i64 (k:Nat)∧k≤OA.length∧Hid (Below w2.heap.size w2 wr)∧Hid (∀i (ha:i<OA.length) (hb:i<OB.length),i<k→OA[i]=OB[i])∧OA.length-k<g)
   case atStart=>exact⟨0,rfl,by omega,X,fun i _ _ h=>by omega,by omega⟩
   case round=>
    clear hk' hk hk1;obtain⟨k,rfl,hk1,X',HE,hg⟩:=hrel;have HG':=qaa hg;have XV':=qaa (bt HX2.out X'.out (Nat.le_refl _));clear hg c0 c1 c2 d0 d1 d2 XV;obtain⟨⟨c0,c1,c2⟩,⟨d0,d1,d2⟩,kxA,koA,kxB,koB⟩:=HC2.out _ X'.out;by_cases hk:k<OA.length
    ·have hk':(k:Int)<(OA.length:Int):=by omega
     have hkB:k<OB.length:=by have:=HL2.out;omega
     obtain⟨pa,oa,rfl,ca⟩:=koA.get hk;obtain⟨pb,ob,rfl,cb⟩:=koB.get hkB;have HS:Hid (OA[k]=OB[k]→∀i (ha:i<OA.length) (hb:i<OB.length),i<k+1→OA[i]=OB[i]):=fun h i ha hb hik=>by
      rcases Nat.lt_or_ge i k with h1|h1
      ·exact HE.out i ha hb h1
      ·obtain rfl:i=k:=by omega
       exact h
     have HN:Hid (¬OA[k]=OB[k]→¬(bs=bs∧NA=NB∧OA=OB)):=fun h h'=>h (by have:=h'.2.2;subst this;rfl)
     clear kxA kxB koA koB HE;generalize OA[k]=x at *;generalize OB[k]=y at *;by_cases hxy:x=y
     ·subst hxy
      have bxy:(x !=x)=false:=by simp
      have HS2:=qaa (HS.out rfl);clear HS HN;go_wp2;go_quiet (fail);have X6:Hid (Below w2.heap.size w2 (World.drewN _ nq)):=X'.out.trans ⟨rfl,rfl,rfl,Nat.le_refl _,fun _ _=>rfl⟩;go_wp2;go_roundg (OA.length-(k+1)+1)
      case measure=>have:=HG'.out;omega
      case rel=>exact⟨k+1,by first|rfl|go_num|(congr 1;omega),by omega,X6,HS2,by omega⟩
     ·have bxy:(x !=y)=true:=by simpa using hxy
      have HN2:=qaa (HN.out hxy);clear HS HN;go_wp2;go_quiet (fail);have X6:Hid (Below w.heap.size w (World.drewN _ nq)):=XV'.out.trans ⟨rfl,rfl,rfl,Nat.le_refl _,fun _ _=>rfl⟩;go_wp2;go_ret;exact⟨NOT.out _ (fun h=>HN2.out ⟨trivial,h⟩),X6.out⟩
    ·have hk':¬(k:Int)<(OA.length:Int):=by omega
     have HT:Hid (bs=bs∧NA=NB∧OA=OB):=⟨rfl,HEN.out,qkg HL2.out (fun i ha hb=>HE.out i ha hb (by omega))⟩;clear kxA kxB koA koB HE;go_wp2;go_ret;exact⟨⟨true,rfl,⟨fun _=>HT.out.2,fun _=>rfl⟩⟩,XV'.out⟩
theorem NAt.raw {w:World} {ao:Option Addr} {L:List Nat} (h:NAt w ao L):ZAt w ao (zN L):=by
 rcases h with h|⟨b,off,h1,h2,h3⟩
 ·exact .inl (by rw[h];rfl)
 ·refine .inr ⟨b,off,h1,h2,fun i hi=>?_⟩
  have:=h3 i (by rw[qal] at hi;exact hi);rw[this];simp[zN]
theorem LeP.flat {bs:By} {NZ OZ:List Int} {base:Nat} {e:Ending} {w:World} (h:LeP bs NZ OZ base e w) (hl:OZ.length≤256):∃(bs':By) (xa:Option Addr) (xc:Nat) (oa:Option Addr) (oc:Nat) (NZ' OZ':List Int) (m:Int),e=.returned (.tuple #[auV bs' xa NZ'.length xc oa OZ'.length oc,.int .i64 m])∧ZAt w xa NZ'∧ZAt w oa OZ'∧(((bs=bs'∧NZ=NZ'∧OZ=OZ')∧m=0)↔qay bs NZ OZ):=by
 rcases h with⟨hno,rfl⟩|⟨NX,OU,rfl,rfl,hM,_,⟨bs',xa,xn,xc,oa,on,oc,rfl,NX',OU',d⟩|⟨rfl,hno⟩⟩
 ·refine⟨[],none,0,none,0,[],[],60,rfl,.inl rfl,.inl rfl,⟨fun h=>by have:=h.2;omega,fun h=>?_⟩⟩
  obtain⟨_,A,B,e1,e2,h1,h2⟩:=h;exact absurd (by rw[e1,e2];exact qdv h1 h2) hno
 ·obtain rfl:xn=NX'.length:=d.rws.shape (j:=0) (by simp) rfl
  obtain rfl:on=OU'.length:=d.rws.shape (j:=1) (by simp) rfl;have KX':NAt w xa NX':=(d.rws.own 0 (by simp)).nat;have KO':NAt w oa OU':=(d.rws.own 1 (by simp)).nat;refine⟨bs',xa,xc,oa,oc,zN NX',zN OU',0,by rw[qal,qal],KX'.raw,KO'.raw,?_⟩;rw[qej hM (by rw[qal] at hl;exact hl) d];exact⟨fun⟨⟨h1,h2,h3⟩,_⟩=>⟨h1,qa2 h2,qa2 h3⟩,fun⟨h1,h2,h3⟩=>⟨⟨h1,by rw[h2],by rw[h3]⟩,rfl⟩⟩
 ·exact⟨[],none,0,none,0,[],[],2,rfl,.inl rfl,.inl rfl,⟨fun h=>by have:=h.2;omega,fun h=>absurd h (qdq hno)⟩⟩
set_option maxRecDepth 100000 in
set_option maxHeartbeats 4000000 in
theorem qct (bs:By) (na oa:Option Addr) (nc oc:Nat) (NZ OZ:List Int) (w:World) (hnl:NZ.length≤140737488351232) (hol:OZ.length≤140737488351232) (hnx:ZAt w na NZ) (hou:ZAt w oa OZ):
 Calls Tryz.prog 17 #[auV bs na NZ.length nc oa OZ.length oc] w fun e w'=>qdm (qay bs NZ OZ) e∧Below w.heap.size w w':=by
 have X1:Below w.heap.size w (w.alloc (.cells #[.string ⟨bs.toArray⟩,.slice na NZ.length nc,.slice oa OZ.length oc] 24)):=al (Below.refl _ _) _;have B1:=heap_alloc_new w (.cells #[.string ⟨bs.toArray⟩,.slice na NZ.length nc,.slice oa OZ.length oc] 24);obtain⟨w1,hw1⟩:∃w1,w1=w.alloc (.cells #[.string ⟨bs.toArray⟩,.slice na NZ.length nc,.slice oa OZ.length oc] 24):=⟨_,rfl⟩;rw[←hw1] at X1 B1;have HC:Hid (∀V,Below w1.heap.size w1 V→V.cell? ⟨w.heap.size,0,none⟩=some (.string ⟨bs.toArray⟩)∧V.cell? ⟨w.heap.size,1,none⟩=some (.slice na NZ.length nc)∧V.cell? ⟨w.heap.size,2,none⟩=some (.slice oa OZ.length oc)∧ZAt V na NZ∧ZAt V oa OZ):=fun V x=>by
  have Bv:=(x.block _ (lt_of_block B1)).trans B1;exact⟨by rw[cell_of_row _ _ _ _ _ _ Bv];rfl,by rw[cell_of_row _ _ _ _ _ _ Bv];rfl,by rw[cell_of_row _ _ _ _ _ _ Bv];rfl,hnx.below (bt X1 x (Nat.le_refl _)),hou.below (bt X1 x (Nat.le_refl _))⟩
 have HX1:=qaa X1;have hlw:=lt_of_block B1;obtain⟨c0,c1,c2,kx,ko⟩:=HC.out w1 (Below.refl _ _);have HMB:=qaa (qdi bs na oa nc oc NZ OZ w1 hnl hol kx ko);clear X1 B1 hnx hou kx ko;unfold auV at HMB ⊢;by_cases h1:(256:Int)<(OZ.length:Int)
 ·have HN:Hid (¬qay bs NZ OZ):=fun h=>by have:=h.1;omega
  have h1d:decide ((256:Int)<(OZ.length:Int))=true:=by simpa using h1
  go_enter Tryz.func17,Tryz.ntmps17;go_upto_region 1 with fail
  rw[←hw1];clear hw1;go_wp2;go_ret;exact⟨⟨false,rfl,⟨fun h=>(by cases h),fun h=>absurd h HN.out⟩⟩,HX1.out⟩
 ·have h1d:decide ((256:Int)<(OZ.length:Int))=false:=by simpa using h1
  have h256:OZ.length≤256:=by omega
  go_enter Tryz.func17,Tryz.ntmps17;go_upto_region 1 with fail
  rw[←hw1];clear hw1;go_wp2_with (fail);refine HMB.out.mono ?_;rintro e w4 ⟨hP,x4⟩;obtain⟨bs',xa,xc,oa',oc',NZ',OZ',m,rfl,kx',ko',hR⟩:=hP.flat h256;have X4:=qaa x4;have HRI:=qaa hR;have KX':=qaa kx';have KO':=qaa ko';clear HMB c0 c1 c2 hP hR x4 kx' ko' h1 h1d;unfold auV;have x5:Below w4.heap.size w4 (w4.alloc (.cells #[.string ⟨bs'.toArray⟩,.slice xa NZ'.length xc,.slice oa' OZ'.length oc'] 24)):=al (Below.refl _ _) _;have B5:=heap_alloc_new w4 (.cells #[.string ⟨bs'.toArray⟩,.slice xa NZ'.length xc,.slice oa' OZ'.length oc'] 24);have HX5:=qaa x5;have HB5:=qaa B5;have HC5:=qaa (HC.out (w4.alloc (.cells #[.string ⟨bs'.toArray⟩,.slice xa NZ'.length xc,.slice oa' OZ'.length oc'] 24)) (bt X4.out x5 (Nat.le_refl _)));clear x5 B5;go_upto_region 4 with fail
  generalize w4.alloc (.cells #[.string ⟨bs'.toArray⟩,.slice xa NZ'.length xc,.slice oa' OZ'.length oc'] 24)=w5 at *;obtain⟨c0,c1,c2,kx,ko⟩:=HC5.out;have e0:w5.cell? ⟨w4.heap.size,0,none⟩=some (.string ⟨bs'.toArray⟩):=by rw[cell_of_row _ _ _ _ _ _ HB5.out];rfl
  have e1:w5.cell? ⟨w4.heap.size,1,none⟩=some (.slice xa NZ'.length xc):=by rw[cell_of_row _ _ _ _ _ _ HB5.out];rfl
  have e2:w5.cell? ⟨w4.heap.size,2,none⟩=some (.slice oa' OZ'.length oc'):=by rw[cell_of_row _ _ _ _ _ _ HB5.out];rfl
  have X5:=qaa (bt HX1.out (bt X4.out HX5.out (Nat.le_refl _)) (Nat.le_refl _));have HSM:=qaa (qdd bs bs' na oa xa oa' nc oc xc oc' NZ OZ NZ' OZ' w5 hnl hol kx ko (KX'.out.below HX5.out) (KO'.out.below HX5.out));unfold auV at HSM;clear kx ko;go_wp2_with (fail);refine HSM.out.mono ?_;rintro e w6 ⟨⟨b,rfl,hb⟩,x6⟩;have X6:=qaa (bt X5.out x6 (Nat.le_refl _));have HBB:=qaa hb;clear HSM hb x6 c0 c1 c2 e0 e1 e2;by_cases hm:m=0
  ·subst hm
   have HT:Hid (b=true↔qay bs NZ OZ):=⟨fun h=>HRI.out.1 ⟨HBB.out.1 h,rfl⟩,fun h=>HBB.out.2 (HRI.out.2 h).1⟩;go_wp2;go_ret;exact⟨⟨b,rfl,HT.out⟩,X6.out⟩
  ·have hm':(m==0)=false:=by simpa using hm
   have HN:Hid (¬qay bs NZ OZ):=fun h=>hm (HRI.out.2 h).2
   go_wp2;go_ret;exact⟨⟨false,rfl,⟨fun h=>(by cases h),fun h=>absurd h HN.out⟩⟩,X6.out⟩
end Go.Proofs.YtdgoilkgplnhfaaGreat

