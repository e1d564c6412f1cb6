/-
  The code's oneForm by its contract. Condition: the automaton may be.
-/
import Derived.Test.YtdgoilkgplnhfaaGreatJ29
import Derived.Test.YtdgoilkgplnhfaaGreatJ15
import Derived.Test.YtdgoilkgplnhfaaGreatJ27
import Derived.Test.YtdgoilkgplnhfaaGreatJ13
import Derived.Test.YtdgoilkgplnhfaaGreatJ26
namespace Go.Proofs.YtdgoilkgplnhfaaGreat
open Go.RowKit Go.Lib
def qcm (D:DF):Prop:=∀E:DF,E.Ok→(∀t,Txt t→E.lab 0 t=D.lab 0 t)→257≤E.n
structure qol (bs:By) (NX OU:List Nat) (base:Nat) (bs':By) (xv ov:Value) (NX' OU':List Nat) (w:World):Prop where
 rws:Rws w base [(xv,NX'),(ov,OU')]
 rt:(dfA bs' NX' OU').Right
 lb:∀t,Txt t→(dfA bs' NX' OU').lab 0 t=(dfA bs NX OU).lab 0 t
 may:qbv bs' NX' OU'
 n:OU'.length≤256
def qhb (bs:By) (NX OU:List Nat) (base:Nat) (e:Ending) (w:World):Prop:=
 (∃bs' xa xn xc oa on oc,e=.returned (.tuple #[auV bs' xa xn xc oa on oc,.int .i64 0])∧∃NX' OU',qol bs NX OU base bs' (.slice xa xn xc) (.slice oa on oc) NX' OU' w)∨
 (e=.returned (.tuple #[auV [] none 0 0 none 0 0,.int .i64 2])∧qcm (dfA bs NX OU))
theorem qan.nat {w:World} {base n cap:Nat} {ao:Option Addr} {L:List Nat} (h:qan w base (.slice ao n cap) L):NAt w ao L:=by
 obtain⟨a,c,e,k⟩:=h.at;injection e with e _ _
 rw[e];exact k
theorem Rws.shape {w:World} {base:Nat} {R:List RN} (h:Rws w base R) {j:Nat} (hj:j<R.length) {xa:Option Addr} {xn xc:Nat} {L:List Nat} (e:R[j]=(.slice xa xn xc,L)):xn=L.length:=by
 have:=h.own j hj;rw[e] at this;obtain⟨a,c,e2⟩:=qan.shape this;injection e2
theorem qju {D D1:DF} (hl:∀t,Txt t→D1.lab 0 t=D.lab 0 t) (hm:qks D1 257) (hr:∀s,s<D1.n→∃t,Txt t∧D1.run 0 t=s):qcm D:=fun E hE he=>
 hm.le hr hE (fun t ht=>by rw[hl t ht,he t ht])
set_option maxRecDepth 100000 in
set_option maxHeartbeats 8000000 in
theorem qcf (bs:By) (na oa:Option Addr) (nc oc:Nat) (NX OU:List Nat) (w:World) (hM:qbv bs NX OU) (hnx:NAt w na NX) (hou:NAt w oa OU):
 Calls Tryz.prog 34 #[auV bs na NX.length nc oa OU.length oc] w fun e w'=>qhb bs NX OU w.heap.size e w'∧Below w.heap.size w w':=by
 obtain⟨w2,hw2⟩:∃w2,w2=(w.alloc (.cells #[.string ⟨bs.toArray⟩,.slice na NX.length nc,.slice oa OU.length oc] 24)).alloc (.cells #[.string ⟨#[]⟩,.slice none 0 0,.slice none 0 0] 24):=⟨_,rfl⟩;obtain⟨X2,B1,B2,hs2⟩:=qap w #[.string ⟨bs.toArray⟩,.slice na NX.length nc,.slice oa OU.length oc] #[.string ⟨#[]⟩,.slice none 0 0,.slice none 0 0] 24 24;rw[←hw2] at X2 B1 B2 hs2;have c0:w2.cell? ⟨w.heap.size,0,none⟩=some (.string ⟨bs.toArray⟩):=by rw[cell_of_row _ _ _ _ _ _ B1];rfl
 have c1:w2.cell? ⟨w.heap.size,1,none⟩=some (.slice na NX.length nc):=by rw[cell_of_row _ _ _ _ _ _ B1];rfl
 have c2:w2.cell? ⟨w.heap.size,2,none⟩=some (.slice oa OU.length oc):=by rw[cell_of_row _ _ _ _ _ _ B1];rfl
 have HRC:=qaa (qgp bs na oa nc oc NX OU w2 hM (hnx.below X2) (hou.below X2));have HI:Hid ((Tryz.prog.info? 24).map (·.size)=some 3):=by unfold Hid;kernel_rfl
 have HX2:=qaa X2;have HB1:=qaa B1;have HB2:=qaa B2;have HS2:=qaa hs2;have HMA:=qaa hM;clear X2 B1 B2 hs2 hM hnx hou;unfold auV at HRC ⊢;go_enter Tryz.func34,Tryz.ntmps34;go_upto_region 1 with fail
 rw[←hw2];clear hw2;go_wp2_with (fail);refine HRC.out.mono ?_;rintro e w3 ⟨⟨col,xa,xn,xc,oa1,on1,oc1,rfl,fst,St,X,hd⟩,x3⟩;obtain rfl:xn=X.length:=hd.rws.shape (j:=0) (by simp) rfl;obtain⟨O1,hO1⟩:∃O1,O1=St.map (gN OU):=⟨_,rfl⟩;have hr:=hd.rws;rw[←hO1] at hr;obtain rfl:on1=O1.length:=hr.shape (j:=1) (by simp) rfl;have HO1:=qaa hO1;clear hO1;have B3:=(x3.block _ (lt_of_block HB1.out)).trans HB1.out;have A1:Hid ((#[.string ⟨(qav col).toArray⟩,.slice xa X.length xc,.slice oa1 O1.length oc1]:Array Value).all (·.oneCell')=true):=by unfold Hid;simp[Value.oneCell']
 have HB3:=qaa B3;have B4:=setRow_heap w3 w.heap.size _ #[.string ⟨(qav col).toArray⟩,.slice xa X.length xc,.slice oa1 O1.length oc1] 24 (0,0) B3;have k4:Kept (fun k=>k=w.heap.size) w3 (w3.setRow w.heap.size #[.string ⟨(qav col).toArray⟩,.slice xa X.length xc,.slice oa1 O1.length oc1]):=qas;clear HRC c0 c1 c2 B3;go_upto_region 2 with(refine wpList_store_row rfl 24 (.tmp 1) (.tmp 7) rfl w.heap.size #[.string ⟨(qav col).toArray⟩,.slice xa X.length xc,.slice oa1 O1.length oc1] rfl rfl 24 #[.string ⟨bs.toArray⟩,.slice na NX.length nc,.slice oa OU.length oc] HB3.out HI.out rfl A1.out ?_)
 have X4:Hid (Below w.heap.size w (w3.setRow w.heap.size #[.string ⟨(qav col).toArray⟩,.slice xa X.length xc,.slice oa1 O1.length oc1])):=(bt HX2.out x3 (Nat.le_refl _)).trans (k4.below (by have:=HS2.out;have:=x3.size;omega) (fun b hb=>by omega));have R4:Hid (Rws (w3.setRow w.heap.size #[.string ⟨(qav col).toArray⟩,.slice xa X.length xc,.slice oa1 O1.length oc1]) w2.heap.size [(.slice xa X.length xc,X),(.slice oa1 O1.length oc1,O1)]):=hr.kept k4 (fun j hj b hb e=>by
  have:=(World.ownsRow.lt (show w3.ownsRow w2.heap.size 3 1 _ _ (qab _) from hr.own j hj) b hb).1;have:=HS2.out;omega)
 have BR4:Hid ((w3.setRow w.heap.size #[.string ⟨(qav col).toArray⟩,.slice xa X.length xc,.slice oa1 O1.length oc1]).heap[w.heap.size+1]? =some (.cells #[.string ⟨#[]⟩,.slice none 0 0,.slice none 0 0] 24 (0,0))):=(k4.block _ (Nat.lt_of_lt_of_le (lt_of_block HB2.out) x3.size) (by omega)).trans ((x3.block _ (lt_of_block HB2.out)).trans HB2.out);have HD:=qaa hd;have HB4:=qaa B4;have S4:Hid (w2.heap.size≤(w3.setRow w.heap.size #[.string ⟨(qav col).toArray⟩,.slice xa X.length xc,.slice oa1 O1.length oc1]).heap.size):=Nat.le_trans x3.size k4.size;clear hd hr x3 k4 B4 HB3 A1;generalize w3.setRow w.heap.size #[.string ⟨(qav col).toArray⟩,.slice xa X.length xc,.slice oa1 O1.length oc1]=w4 at *;have HOL:Hid (O1.length=St.length):=by unfold Hid;rw[HO1.out,List.length_map]
 obtain⟨hpre,hlab⟩:=HD.out.rc.done HD.out.nf;have HLB:=qaa hlab;have hn0:0<O1.length:=by rw[HOL.out];exact hpre.toOk.n0
 have hn1:O1.length≤65536:=by have:=HD.out.sl;have:=HMA.out.n1;have:=HOL.out;omega
 have hXl:Hid (X.length=O1.length*fst.length):=by unfold Hid;rw[HOL.out];have:=HD.out.rc.len;omega
 have hW0:0<fst.length:=hpre.toOk.W0;have hW1:fst.length≤256:=qax 256 fst.length (gN fst) HD.out.nf.fstlt (fun i h1 j h2 e=>by rw[←HD.out.nf.numfst i h1,←HD.out.nf.numfst j h2,e]);have HNL:Hid (∀t,t<X.length→gN X t<O1.length):=fun t ht=>by
  have hm:=Nat.mod_lt t hW0;have hd:=Nat.div_add_mod t fst.length;have hq:t/fst.length<St.length:=by rw[Nat.div_lt_iff_lt_mul hW0];have:=hXl.out;rw[HOL.out] at this;omega
  have:=hpre.toOk.nx (t/fst.length) hq (t%fst.length) hm;rw[HOL.out];show gN X t<St.length;have e:(t/fst.length)*fst.length+t%fst.length=t:=by rw[Nat.mul_comm];exact hd
  have h9:gN X ((t/fst.length)*fst.length+t%fst.length)<St.length:=this;rw[e] at h9;exact h9
 have kx:NAt w4 xa X:=(R4.out.own 0 (by simp)).nat;have ko:NAt w4 oa1 O1:=(R4.out.own 1 (by simp)).nat;have HNX:=qaa kx;have HNO:=qaa ko;have HAP:=qaa (qjt (qav col) xa oa1 xc oc1 fst.length X O1 (rcD (dfA bs NX OU) col fst St X) w4 hn0 hn1 hXl.out hW0 hW1 HNL.out kx ko hpre HOL.out.symm rfl (fun s c=>rfl) (fun s hs=>by
  show((gN OU (gN St s):Nat):Int)=((gN O1 s:Nat):Int);rw[HO1.out,qfz _ _ (by rw[←HOL.out];exact hs)]))
 have d0:w4.cell? ⟨w.heap.size,0,none⟩=some (.string ⟨(qav col).toArray⟩):=by rw[cell_of_row _ _ _ _ _ _ HB4.out];rfl
 have d1:w4.cell? ⟨w.heap.size,1,none⟩=some (.slice xa X.length xc):=by rw[cell_of_row _ _ _ _ _ _ HB4.out];rfl
 have d2:w4.cell? ⟨w.heap.size,2,none⟩=some (.slice oa1 O1.length oc1):=by rw[cell_of_row _ _ _ _ _ _ HB4.out];rfl
 unfold auV at HAP;clear kx ko hlab;go_wp2_with (fail);refine HAP.out.mono ?_;rintro e w5 ⟨⟨pv,b,rfl,P,oP,hPl,hPb,hPt,hPf⟩,x5⟩;obtain⟨pa,pc,hpv,_⟩:=qag (show w5.ownsRow w4.heap.size 3 1 pv P.length (qab P) from oP);subst hpv;have HOP:=qaa oP;have HPL:=qaa hPl;have HPB:=qaa hPb;have HPT:=qaa hPt;have HPF:=qaa hPf;have X5:=qaa (bt X4.out x5 (Nat.le_refl _));have R5:=qaa (R4.out.below x5);have HB5:=qaa ((x5.block _ (lt_of_block HB4.out)).trans HB4.out);have BR5:=qaa ((x5.block _ (lt_of_block BR4.out)).trans BR4.out);have S5:Hid (w2.heap.size≤w5.heap.size):=Nat.le_trans S4.out x5.size;have NX5:=qaa (HNX.out.below x5);have NO5:=qaa (HNO.out.below x5);clear HAP oP hPl hPb hPt hPf d0 d1 d2 x5 HNX HNO R4 HB4 BR4 X4;have d0:w5.cell? ⟨w.heap.size,0,none⟩=some (.string ⟨(qav col).toArray⟩):=by rw[cell_of_row _ _ _ _ _ _ HB5.out];rfl
 have d1:w5.cell? ⟨w.heap.size,1,none⟩=some (.slice xa X.length xc):=by rw[cell_of_row _ _ _ _ _ _ HB5.out];rfl
 have d2:w5.cell? ⟨w.heap.size,2,none⟩=some (.slice oa1 O1.length oc1):=by rw[cell_of_row _ _ _ _ _ _ HB5.out];rfl
 cases b with
 |false=>
  as_aux_lemma=>
   have A0:Hid ((#[.string ⟨#[]⟩,.slice none 0 0,.slice none 0 0]:Array Value).all (·.oneCell')=true):=by unfold Hid;simp[Value.oneCell']
   have B6:=setRow_heap w5 (w.heap.size+1) _ #[.string ⟨#[]⟩,.slice none 0 0,.slice none 0 0] 24 (0,0) BR5.out;have k6:Kept (fun k=>k=w.heap.size+1) w5 (w5.setRow (w.heap.size+1) #[.string ⟨#[]⟩,.slice none 0 0,.slice none 0 0]):=qas;have X6:=qaa (X5.out.trans (k6.below X5.out.size (fun b hb=>by omega)));have z0:=cell_of_row _ _ 0 _ _ _ B6;have z1:=cell_of_row _ _ 1 _ _ _ B6;have z2:=cell_of_row _ _ 2 _ _ _ B6;have HNF:Hid (qcm (dfA bs NX OU)):=qju HLB.out (HPF.out rfl) hpre.reach;clear B6 k6 hpre;go_wp2_with (refine wpList_store_row rfl 24 (.tmp 2) (.tmp 15) rfl (w.heap.size+1) #[.string ⟨#[]⟩,.slice none 0 0,.slice none 0 0] rfl rfl 24 #[.string ⟨#[]⟩,.slice none 0 0,.slice none 0 0] BR5.out HI.out rfl A0.out ?_);refine bodyPost_ret (by simp[results,Tryz.results34,go_sem,z0,z1,z2];try rfl) rfl ?_;exact⟨.inr ⟨rfl,HNF.out⟩,X6.out⟩
 |true=>
  as_aux_lemma=>
   obtain⟨hp256,hpe⟩:=HPT.out rfl;have HMG:=qaa (qh3 (qav col) xa oa1 pa xc oc1 pc fst.length X O1 P w5 hn0 hn1 hXl.out hW0 hW1 HPL.out (fun x hx=>by
    obtain⟨k,hk,rfl⟩:=List.mem_iff_getElem.1 hx;have:=HPB.out k (by rw[←HPL.out];exact hk);rw[qah hk] at this;omega) (fun x hx=>by
    obtain⟨k,hk,rfl⟩:=List.mem_iff_getElem.1 hx;have:=HNL.out k hk;rw[qah hk] at this;exact this) (qgt (show w5.ownsRow w2.heap.size 3 1 (.slice xa X.length xc) X.length (qab X) from R5.out.own 0 (by simp))) NX5.out NO5.out HOP.out.nat)
   unfold auV at HMG;have HPE:=qaa hpe;have HP256:=qaa hp256;have HPRE:=qaa hpre;clear hpe hp256 hpre;go_wp2_with (fail);refine HMG.out.mono ?_;rintro e w6 ⟨⟨xa2,xn2,xc2,oa2,on2,oc2,rfl,num2,fst2,Xm,hd2⟩,x6⟩;clear HMG;obtain rfl:xn2=Xm.length:=hd2.rws.shape (j:=0) (by simp) rfl;obtain⟨O2,hO2⟩:∃O2,O2=fst2.map (gN O1):=⟨_,rfl⟩;have hr2:=hd2.rws;rw[←hO2] at hr2;obtain rfl:on2=O2.length:=hr2.shape (j:=1) (by simp) rfl;have hO2l:O2.length=fst2.length:=by rw[hO2,List.length_map]
   have nf2:=hd2.nf;have hf2:∀k,k<fst2.length→gN fst2 k<P.length:=nf2.fstlt;have h256:fst2.length≤256:=qax 256 fst2.length (fun k=>gN P (gN fst2 k)) (fun k hk=>HP256.out _ (by rw[←HPL.out];exact hf2 k hk)) (fun i hi j hj e=>by
    have e':gN P (gN fst2 i)=gN P (gN fst2 j):=e;have:=(nf2.same (hf2 i hi) (hf2 j hj)).2 e';rw[nf2.numfst i hi,nf2.numfst j hj] at this;exact this)
   have hP0:0<P.length:=by rw[HPL.out];exact hn0
   have hM0:0<fst2.length:=(nf2.zero hP0).2;have l2:Xm.length=fst2.length*fst.length:=hd2.len;have v2:=hd2.val;have hcol:∀b,b<256→((qav col).getD b 0).toNat=gN col b:=fun b hb=>qdu col (by rw[HD.out.cl];exact hb) (by have:=HD.out.nf.numlt b hb;omega)
   have HNA:=qaa (qfq (qav col) xa2 oa2 xc2 oc2 fst.length Xm O2 w6 (by unfold qav;rw[List.length_map];exact HD.out.cl) (by omega) (by omega) (by rw[hO2l];exact l2) hW0 hW1 (fun b hb=>by rw[hcol b hb];exact HD.out.nf.numlt b hb) (fun t ht=>by
    rw[v2 t ht,hO2l];refine nf2.numlt _ ?_;rw[HPL.out];refine HNL.out _ ?_;have hq:t/fst.length<fst2.length:=by rw[Nat.div_lt_iff_lt_mul hW0,←l2];exact ht
    have:=qcd (hf2 _ hq) (Nat.mod_lt t hW0);rw[HPL.out] at this;have h9:=hXl.out;omega) (hr2.own 0 (by simp)).nat)
   unfold auV at HNA;have HD2:=qaa hd2;have HR2:=qaa hr2;have HO2:=qaa hO2;have HO2L:=qaa hO2l;have H256:=qaa h256;have X6:=qaa x6;clear hd2 hr2 hO2 hO2l nf2 hf2 l2 v2 hcol h256 x6 hP0 d0 d1 d2;go_wp2_with (fail);refine HNA.out.mono ?_;rintro e w7 ⟨⟨of3,xa3,xn3,xc3,rfl,num3,fst3,X3,hd3⟩,x7⟩;clear HNA;obtain⟨a3,c3,e3⟩:=qan.shape hd3.own;obtain rfl:xn3=X3.length:=by injection e3
   clear e3 a3 c3;have hone:=qlo HD.out.rc HD.out.nf HD.out.cl hW1 (by rw[HPL.out];exact HOL.out) (fun s hs t ht=>HPE.out s (by rw[HOL.out];exact hs) t (by rw[HOL.out];exact ht)) HD2.out.nf HD2.out.len HD2.out.val H256.out (by have:=hd3.nf;rw[HO2L.out] at this;exact this) hd3.ofl hd3.ofv (by have:=hd3.len;rw[HO2L.out] at this;exact this) hd3.val;rw[←HO1.out,←HO2.out] at hone;have BR7:=(x7.block _ (Nat.lt_of_lt_of_le (lt_of_block BR5.out) X6.out.size)).trans ((X6.out.block _ (lt_of_block BR5.out)).trans BR5.out);have A7:Hid ((#[.string ⟨(qav of3).toArray⟩,.slice xa3 X3.length xc3,.slice oa2 O2.length oc2]:Array Value).all (·.oneCell')=true):=by unfold Hid;simp[Value.oneCell']
   have HBR7:=qaa BR7;have B8:=setRow_heap w7 (w.heap.size+1) _ #[.string ⟨(qav of3).toArray⟩,.slice xa3 X3.length xc3,.slice oa2 O2.length oc2] 24 (0,0) BR7;have k8:Kept (fun k=>k=w.heap.size+1) w7 (w7.setRow (w.heap.size+1) #[.string ⟨(qav of3).toArray⟩,.slice xa3 X3.length xc3,.slice oa2 O2.length oc2]):=qas;have z0:=cell_of_row _ _ 0 _ _ _ B8;have z1:=cell_of_row _ _ 1 _ _ _ B8;have z2:=cell_of_row _ _ 2 _ _ _ B8;have b7:=bt (bt X5.out X6.out (Nat.le_refl _)) x7 (Nat.le_refl _);have X8:=qaa (b7.trans (k8.below b7.size (fun b hb=>by omega)));have HON:Hid (qol bs NX OU w.heap.size (qav of3) (.slice xa3 X3.length xc3) (.slice oa2 O2.length oc2) X3 O2 (w7.setRow (w.heap.size+1) #[.string ⟨(qav of3).toArray⟩,.slice xa3 X3.length xc3,.slice oa2 O2.length oc2])):=by
    have hs2:=HS2.out;have hs5:=S5.out;have hs6:=X6.out.size;have o3:qan w7 w6.heap.size (.slice xa3 X3.length xc3) X3:=hd3.own;have o2:qan w7 w5.heap.size (.slice oa2 O2.length oc2) O2:=own_below (HR2.out.own 1 (by simp)) x7;have g3:∀b,(.slice xa3 X3.length xc3:Value).ownBlock=some b→w6.heap.size≤b:=fun b hb=>(World.ownsRow.lt (show w7.ownsRow w6.heap.size 3 1 (.slice xa3 X3.length xc3) X3.length (qab X3) from o3) b hb).1
    have g2:∀b,(.slice oa2 O2.length oc2:Value).ownBlock=some b→w5.heap.size≤b∧b<w6.heap.size:=fun b hb=>⟨(World.ownsRow.lt (show w6.ownsRow w5.heap.size 3 1 (.slice oa2 O2.length oc2) O2.length (qab O2) from HR2.out.own 1 (by simp)) b hb).1,(World.ownsRow.lt (show w6.ownsRow w5.heap.size 3 1 (.slice oa2 O2.length oc2) O2.length (qab O2) from HR2.out.own 1 (by simp)) b hb).2⟩
    have o3':qan (w7.setRow (w.heap.size+1) #[.string ⟨(qav of3).toArray⟩,.slice xa3 X3.length xc3,.slice oa2 O2.length oc2]) w.heap.size (.slice xa3 X3.length xc3) X3:=(show qan _ w6.heap.size _ _ from qai o3 k8 (fun b hb e=>by have:=g3 b hb;omega)).mono' (by omega);have o2':qan (w7.setRow (w.heap.size+1) #[.string ⟨(qav of3).toArray⟩,.slice xa3 X3.length xc3,.slice oa2 O2.length oc2]) w.heap.size (.slice oa2 O2.length oc2) O2:=(show qan _ w5.heap.size _ _ from qai o2 k8 (fun b hb e=>by have:=(g2 b hb).1;omega)).mono' (by omega);have hwd:X3.length/O2.length=fst3.length:=by rw[hd3.len];exact Nat.mul_div_cancel_left _ (by rw[HO2L.out];exact hM0)
    have ok:=hone.1.toOk;refine⟨(Rws.nil _ w.heap.size).two o3' o2' (fun b h1 h2=>by have:=g3 b h1;have:=g2 b h2;omega),hone.1,hone.2,⟨by unfold qav;rw[List.length_map];exact hd3.ofl,ok.n0,by have:=H256.out;have:=HO2L.out;omega,by rw[hwd];exact hd3.len,fun b hb=>ok.bc b hb,?_,fun x hx=>?_,fun x hx=>?_⟩,by have:=H256.out;have:=HO2L.out;omega⟩
    ·rw[hwd]
     exact Nat.le_trans (qax fst.length fst3.length (gN fst3) hd3.nf.fstlt (fun i a j b e=>by rw[←hd3.nf.numfst i a,←hd3.nf.numfst j b,e])) hW1
    ·obtain⟨t,ht,rfl⟩:=List.mem_iff_getElem.1 hx
     have hfp:0<fst3.length:=by
      rcases Nat.eq_zero_or_pos fst3.length with e0|e0
      ·rw[hd3.len,e0] at ht;omega
      ·exact e0
     have hq:t/fst3.length<O2.length:=by rw[Nat.div_lt_iff_lt_mul hfp,←hd3.len];exact ht
     have h9:=ok.nx (t/fst3.length) hq (t%fst3.length) (by show t%fst3.length<X3.length/O2.length;rw[hwd];exact Nat.mod_lt t hfp);have h10:gN X3 (t/fst3.length*(X3.length/O2.length)+t%fst3.length)<O2.length:=h9;rw[hwd] at h10;have e:(t/fst3.length)*fst3.length+t%fst3.length=t:=by rw[Nat.mul_comm];exact Nat.div_add_mod t fst3.length
     rw[e,qah ht] at h10;exact h10
    ·rw[HO2.out] at hx
     obtain⟨k,hk,rfl⟩:=List.mem_map.1 hx;obtain⟨i,hi,rfl⟩:=List.mem_iff_getElem.1 hk;have hki:fst2[i]<O1.length:=by have:=HD2.out.nf.fstlt i hi;rw[qah hi,HPL.out] at this;exact this
     rw[HO1.out,qfz _ _ (by rw[←HOL.out];exact hki)];have hst:gN St fst2[i]<OU.length:=HD.out.rc.lt _ (by rw[←HOL.out];exact hki);rw[qah hst];exact HMA.out.lb _ (List.getElem_mem hst)
   clear B8 k8 BR7 x7 b7 hone hd3;go_wp2_with (refine wpList_store_row rfl 24 (.tmp 2) (.tmp 19) rfl (w.heap.size+1) #[.string ⟨(qav of3).toArray⟩,.slice xa3 X3.length xc3,.slice oa2 O2.length oc2] rfl rfl 24 #[.string ⟨#[]⟩,.slice none 0 0,.slice none 0 0] HBR7.out HI.out rfl A7.out ?_);refine bodyPost_ret (by simp[results,Tryz.results34,go_sem,z0,z1,z2];try rfl) rfl ?_;exact⟨.inl ⟨_,_,_,_,_,_,_,rfl,X3,O2,HON.out⟩,X8.out⟩
end Go.Proofs.YtdgoilkgplnhfaaGreat
namespace Go.Proofs.YtdgoilkgplnhfaaGreat
open Go.RowKit Go.Lib Go.Maps
def plZ (L:List Pc):List Bool:=plL (clF L (upd (fun _=>false) 0) L.length)
def plC (L:List Pc) (fst:List Nat) (B:List Bool) (c:Nat):List Bool:=plL (clF L (agF L (plF B) (fun i=>tq L 256 0 (gN fst c*64+i)) L.length) L.length)
theorem qpk {L:List Pc} (hl:L.length≤64) {q i:Nat} (hq:q<256) (hi:i<L.length):tq L 256 0 (q*64+i)=tkB (L.getD i zPc) ((q:Nat):Int):=by
 have e1:(q*64+i)/64=q:=by omega
 have e2:(q*64+i)%64=i:=by omega
 unfold tq;rw[e1,e2];simp[hq,hi]
theorem qmg {L:List Pc} {f g:Nat→Bool} {b:Int}:∀(n:Nat),(∀j,j<n→g j=tkB (L.getD j zPc) b)→agF L f g n=afF L f b n
 |0,_=>rfl
 |n+1,h=>by
  have ih:=qmg (f:=f) n (fun j hj=>h j (by omega));have e:=h n (by omega);unfold zPc at e;unfold agF afF;rw[ih,e]
theorem qlp {f g:Nat→Bool} (h:qb9 f=qb9 g) {i:Nat} (hi:i<64):f i=g i:=by
 have e:(qb9 f)[i]? =(qb9 g)[i]? :=by rw[h]
 rw[qdt f i hi,qdt g i hi] at e;injection e with e
 injection e
section
variable {L:List Pc} {num fst:List Nat} {lit:Nat→Lit}
theorem qmh (hl:L.length≤64) (nf:qbf lit 256 (gN num) (gN fst) fst.length) (hlit:∀b c,b<256→c<256→lit b=lit c→qb9 (fun i=>tq L 256 0 (b*64+i))=qb9 (fun i=>tq L 256 0 (c*64+i))) (B:List Bool) {b:Nat} (hb:b<256):plC L fst B (gN num b)=plS L B b:=by
 have hq:=nf.fstlt _ (nf.numlt b hb);have hk:=hlit _ _ hq hb (nf.lk b hb);unfold plC plS
 congr 1
 unfold stF;rw[qmg L.length (fun j hj=>?_)];have e:=qlp hk (show j<64 by omega);rw[e,qpk hl hb hj];have e2:(UInt8.ofNat b).toNat=b:=by simp;omega
 rw[e2]
theorem qjv (hl:L.length≤64) (nf:qbf lit 256 (gN num) (gN fst) fst.length) (hlit:∀b c,b<256→c<256→lit b=lit c→qb9 (fun i=>tq L 256 0 (b*64+i))=qb9 (fun i=>tq L 256 0 (c*64+i))):∀(t:List Nat) (B:List Bool),Txt t→t.foldl (fun x b=>plC L fst x (gN num b)) B=t.foldl (plS L) B
 |[],_,_=>rfl
 |b::t,B,ht=>by
  rw[List.foldl_cons,List.foldl_cons,qmh hl nf hlit B ht.tail.1];exact qjv hl nf hlit t _ ht.tail.2
theorem qhq (hl:L.length≤64) (nf:qbf lit 256 (gN num) (gN fst) fst.length) (hlit:∀b c,b<256→c<256→lit b=lit c→qb9 (fun i=>tq L 256 0 (b*64+i))=qb9 (fun i=>tq L 256 0 (c*64+i))):∀(u:List Nat) (B:List Bool),(∀c∈u,c<fst.length)→u.foldl (plC L fst) B=(u.map (gN fst)).foldl (plS L) B∧Txt (u.map (gN fst))
 |[],_,_=>⟨rfl,Txt.nil⟩
 |c::u,B,hu=>by
  have hc:=hu c List.mem_cons_self;obtain⟨h1,h2⟩:=qhq hl nf hlit u (plC L fst B c) (fun x hx=>hu x (List.mem_cons_of_mem _ hx));have h3:=qmh hl nf hlit B (nf.fstlt c hc);rw[nf.numfst c hc] at h3;refine⟨?_,Txt.cons (nf.fstlt c hc) h2⟩;rw[List.foldl_cons,List.map_cons,List.foldl_cons,h1,h3]
end
theorem qjw {t:List Nat} (ht:Txt t):ntL (qav t)=t:=by
 unfold ntL qav;rw[List.map_map]
 conv=>rhs;rw[←List.map_id t]
 apply List.map_congr_left;intro b hb;have:=ht b hb;simp;omega
theorem qnj {L:List Pc} (hl:L.length≤64) {t:List Nat} (ht:Txt t):t.foldl (plS L) (plZ L)=plL (mtF L (qav t)):=by
 have:=qjq hl (qav t) (clF L (upd (fun _=>false) 0) L.length);rw[qjw ht] at this;exact this
def qhr (L:List Pc):Prop:=∃B:List (List Bool),B.length=257∧(∀a,a<257→∀b,b<257→gS (plZ L) B a=gS (plZ L) B b→a=b)∧∀a,a<257→∃t:By,gS (plZ L) B a=plL (mtF L t)
def qlq (L:List Pc):Prop:=∃B:List (List Bool),B.length≤256∧∀t:By,∃a,a<B.length∧gS (plZ L) B a=plL (mtF L t)
theorem qf0 {L:List Pc} (h:qlq L) (k:qhr L):False:=by
 obtain⟨A,hA,hA2⟩:=h;obtain⟨B,hB,hB1,hB2⟩:=k;have h1:∀a,a<257→∃c,c<A.length∧gS (plZ L) A c=gS (plZ L) B a:=fun a ha=>by
  obtain⟨t,ht⟩:=hB2 a ha;obtain⟨c,hc,e⟩:=hA2 t;exact⟨c,hc,by rw[e,ht]⟩
 have h2:∃f:Nat→Nat,∀a,a<257→f a<A.length∧gS (plZ L) A (f a)=gS (plZ L) B a:=by
  classical
  exact⟨fun a=>if h:a<257 then(h1 a h).choose else 0,fun a ha=>by simp only[dif_pos ha];exact(h1 a ha).choose_spec⟩
 obtain⟨f,hf⟩:=h2;have:=qax A.length 257 f (fun a ha=>(hf a ha).1) (fun a ha b hb e=>hB1 a ha b hb (by rw[←(hf a ha).2,←(hf b hb).2,e]));omega
theorem Tryz.info80b:(Tryz.prog.info? 80).map (fun i=>(i.zero,i.size,i.bytes))=some (some (.agg (mk fun _=>false)),65,65):=by kernel_rfl
theorem qnk:Tryz.prog.cellsOf 80=65∧Tryz.prog.cellsOf 78=65∧Tryz.prog.cellsOf 4=1:=⟨by kernel_rfl,by kernel_rfl,by kernel_rfl⟩
theorem qnl:Tryz.prog.keyType 80=true:=by kernel_rfl
theorem qf1 (B:List Bool) (hl:B.length=65):∃l,keyOf Tryz.prog 80 (.agg (B.map fun(b:Bool)=>Value.bool b).toArray)=some l:=by
 obtain⟨c1,c2,c3⟩:=qnk;have hlits:∃ls,Tryz.prog.keyLits (Tryz.prog.types.size+1) 80 (B.map fun(b:Bool)=>Value.bool b)=some ls:=by
  rw[qbm];unfold Program.keyLits;simp only[Tryz.underlying80];have hlen:(B.map fun(b:Bool)=>Value.bool b).length=65:=by rw[List.length_map,hl]
  rw[if_pos ⟨by rw[hlen,c1],by first|(simp;done)|kernel_rfl⟩];have h71:∃ls,Tryz.prog.keyLits 253 78 (B.map fun(b:Bool)=>Value.bool b)=some ls:=by
   unfold Program.keyLits;simp only[Tryz.underlying78];rw[if_pos (by rw[hlen,c2]),mapM_some _ (fun i=>[Lit.bool (B.getD i false)]) (List.range 65) (fun i hi=>?_)]
   ·exact⟨_,rfl⟩
   ·have hi':i<B.length:=by rw[hl];exact List.mem_range.1 hi
    have e:((B.map fun(b:Bool)=>Value.bool b).drop (i*Tryz.prog.cellsOf 4)).take (Tryz.prog.cellsOf 4)=[.bool (B.getD i false)]:=by
     rw[c3,Nat.mul_one,List.drop_eq_getElem_cons (by rw[List.length_map];exact hi')];simp[List.getD_eq_getElem?_getD,hi']
    rw[e];exact qhk _ 251
  obtain⟨ls,hls⟩:=h71;have e:((B.map fun(b:Bool)=>Value.bool b).drop 0).take (Tryz.prog.cellsOf 78)=B.map fun(b:Bool)=>Value.bool b:=by
   rw[List.drop_zero,c2,List.take_of_length_le (by rw[hlen];exact Nat.le_refl _)]
  simp only[List.mapM_cons,List.mapM_nil,e,hls];exact⟨_,rfl⟩
 obtain⟨ls,hls⟩:=hlits;unfold keyOf;simp only[Tryz.underlying80];rw[if_pos (by
  rw[qnl];simp[Value.formed,Tryz.underlying80,c1,hl])]
 have e:(Value.agg (B.map fun(b:Bool)=>Value.bool b).toArray).cells.toList=B.map fun(b:Bool)=>Value.bool b:=by simp[Value.cells]
 rw[e,hls];exact⟨_,rfl⟩
theorem qcn:Keyed Tryz.prog 80:=Keyed.of_law (deep_law_laid (m:=254) (by kernel_rfl) (by decide) (by rw[qbm];decide) (by kernel_rfl) (by simp[Tryz.underlying80]))
theorem qhs (B:List Bool) (hl:B.length=65):∃l,keyOf Tryz.prog 80 (.agg (mk (plF B)))=some l:=by
 have e:mk (plF B)=(B.map fun(b:Bool)=>Value.bool b).toArray:=by
  conv=>rhs;rw[←qnb hl]
  unfold mk plL;rw[List.map_map];rfl
 rw[e];exact qf1 B hl
end Go.Proofs.YtdgoilkgplnhfaaGreat

