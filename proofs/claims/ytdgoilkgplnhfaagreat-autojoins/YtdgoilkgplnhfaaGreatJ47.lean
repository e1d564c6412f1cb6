/-
  Map by its contract: an automaton with other labels, in its one form. Condition: lists no longer than a process can hold.
-/
import Derived.Test.YtdgoilkgplnhfaaGreatJ34
namespace Go.Proofs.YtdgoilkgplnhfaaGreat
open Go.RowKit Go.Lib
def Mpd (LZ:List Int) (o:Nat):Prop:=o<LZ.length∧Lab (LZ.getD o 0)
def mpO (LZ:List Int) (OU:List Nat):List Nat:=OU.map fun o=>(LZ.getD o 0).toNat
theorem qcp (LZ:List Int) (OU:List Nat):(mpO LZ OU).length=OU.length:=by simp[mpO]
def MpP (bs:By) (NZ OZ LZ:List Int) (base:Nat) (e:Ending) (w:World):Prop:=
 (¬qay bs NZ OZ∧e=.returned (.tuple #[auV [] none 0 0 none 0 0,.int .i64 1]))∨∃NX OU,NZ=zN NX∧OZ=zN OU∧qbv bs NX OU∧(dfA bs NX OU).Right∧OU.length≤256∧
   (((∃i,i<OU.length∧¬Mpd LZ (gN OU i))∧e=.returned (.tuple #[auV [] none 0 0 none 0 0,.int .i64 1]))∨((∀i,i<OU.length→Mpd LZ (gN OU i))∧qhb bs NX (mpO LZ OU) base e w))
theorem qhw {bs:By} {NX OU:List Nat} {LZ:List Int} (h:qbv bs NX OU) (hm:∀i,i<OU.length→Mpd LZ (gN OU i)):qbv bs NX (mpO LZ OU):=by
 have e:=qcp LZ OU;refine⟨h.bl,by rw[e];exact h.n0,by rw[e];exact h.n1,by rw[e];exact h.wl,by rw[e];exact h.bw,by rw[e];exact h.w1,by rw[e];exact h.nl,fun x hx=>?_⟩;unfold mpO at hx;obtain⟨o,ho,rfl⟩:=List.mem_map.1 hx;obtain⟨i,hi,rfl⟩:=List.getElem_of_mem ho;have:=(hm i hi).2;rw[qah hi] at this;unfold Lab at this;omega
theorem ZAt.get' {w:World} {ao:Option Addr} {L:List Int} (h:ZAt w ao L) {i:Nat} (hi:i<L.length):∃b off,ao=some ⟨b,off,none⟩∧w.cell? ⟨b,off+i,none⟩=some (.int .i64 (L.getD i 0)):=by
 rcases h with rfl|⟨b,off,e,hb,h⟩
 ·simp at hi
 ·exact⟨b,off,e,by rw[h i hi];simp[List.getD_eq_getElem?_getD,hi]⟩
set_option maxRecDepth 100000 in
set_option maxHeartbeats 8000000 in
theorem qnx (bs:By) (na oa la:Option Addr) (nc oc lc:Nat) (NZ OZ LZ:List Int) (w:World) (hnl:NZ.length≤140737488351232) (hol:OZ.length≤140737488351232) (hnx:ZAt w na NZ) (hou:ZAt w oa OZ) (hla:ZAt w la LZ):
 Calls Tryz.prog 25 #[auV bs na NZ.length nc oa OZ.length oc,.slice la LZ.length lc] w fun e w'=>MpP bs NZ OZ LZ w.heap.size e w'∧Below w.heap.size w w':=by
 obtain⟨w2,hw2⟩:∃w2,w2=(w.alloc (.cells #[.string ⟨bs.toArray⟩,.slice na NZ.length nc,.slice oa OZ.length oc] 24)).alloc (.cells #[.string ⟨#[]⟩,.slice none 0 0,.slice none 0 0] 24):=⟨_,rfl⟩;obtain⟨X2,B1,B2,hs2⟩:=qap w #[.string ⟨bs.toArray⟩,.slice na NZ.length nc,.slice oa OZ.length oc] #[.string ⟨#[]⟩,.slice none 0 0,.slice none 0 0] 24 24;rw[←hw2] at X2 B1 B2 hs2;have HC:Hid (∀V,Below w2.heap.size w2 V→V.cell? ⟨w.heap.size,0,none⟩=some (.string ⟨bs.toArray⟩)∧V.cell? ⟨w.heap.size,1,none⟩=some (.slice na NZ.length nc)∧V.cell? ⟨w.heap.size,2,none⟩=some (.slice oa OZ.length oc)∧V.heap[w.heap.size+1]? =some (.cells #[.string ⟨#[]⟩,.slice none 0 0,.slice none 0 0] 24 (0,0))∧ZAt V na NZ∧ZAt V oa OZ∧ZAt V la LZ):=fun V x=>by
  have Bv:=(x.block _ (lt_of_block B1)).trans B1;exact⟨by rw[cell_of_row _ _ _ _ _ _ Bv];rfl,by rw[cell_of_row _ _ _ _ _ _ Bv];rfl,by rw[cell_of_row _ _ _ _ _ _ Bv];rfl,(x.block _ (lt_of_block B2)).trans B2,hnx.below (bt X2 x (Nat.le_refl _)),hou.below (bt X2 x (Nat.le_refl _)),hla.below (bt X2 x (Nat.le_refl _))⟩
 have HX2:=qaa X2;have HS2:=qaa hs2;obtain⟨c0,c1,c2,_,kx,ko,_⟩:=HC.out w2 (Below.refl _ _);have HR:=qaa (qby bs na oa nc oc NZ OZ w2 hnl hol kx ko);have HI:Hid ((Tryz.prog.info? 24).map (·.size)=some 3):=by unfold Hid;kernel_rfl
 have A0:Hid ((#[.string ⟨#[]⟩,.slice none 0 0,.slice none 0 0]:Array Value).all (·.oneCell')=true):=by unfold Hid;simp[Value.oneCell']
 have HNO:Hid (∀V,Below w2.heap.size w2 V→(V.setRow (w.heap.size+1) #[.string ⟨#[]⟩,.slice none 0 0,.slice none 0 0]).cell? ⟨w.heap.size+1,0,none⟩=some (.string ⟨#[]⟩)∧(V.setRow (w.heap.size+1) #[.string ⟨#[]⟩,.slice none 0 0,.slice none 0 0]).cell? ⟨w.heap.size+1,1,none⟩=some (.slice none 0 0)∧(V.setRow (w.heap.size+1) #[.string ⟨#[]⟩,.slice none 0 0,.slice none 0 0]).cell? ⟨w.heap.size+1,2,none⟩=some (.slice none 0 0)∧Below w.heap.size w (V.setRow (w.heap.size+1) #[.string ⟨#[]⟩,.slice none 0 0,.slice none 0 0])):=fun V x=>by
  have B3:=(HC.out V x).2.2.2.1;have B6:=setRow_heap V (w.heap.size+1) _ #[.string ⟨#[]⟩,.slice none 0 0,.slice none 0 0] 24 (0,0) B3;have k6:Kept (fun k=>k=w.heap.size+1) V (V.setRow (w.heap.size+1) #[.string ⟨#[]⟩,.slice none 0 0,.slice none 0 0]):=qas;have x3:=bt HX2.out x (Nat.le_refl _);exact⟨by rw[cell_of_row _ _ _ _ _ _ B6];rfl,by rw[cell_of_row _ _ _ _ _ _ B6];rfl,by rw[cell_of_row _ _ _ _ _ _ B6];rfl,x3.trans (k6.below x3.size (fun b hb=>by omega))⟩
 clear X2 B1 B2 hs2 hnx hou hla kx ko;unfold auV at HR ⊢;go_enter Tryz.func25,Tryz.ntmps25;go_upto_region 1 with fail
 rw[←hw2];clear hw2;go_wp2_with (fail);refine HR.out.mono ?_;rintro e w3 ⟨⟨b,rfl,hb⟩,x3⟩;have HBB:=qaa hb;have X3:=qaa x3;clear HR c0 c1 c2 hb x3;obtain⟨c0,c1,c2,B3,kx,ko,kl⟩:=HC.out w3 X3.out;have HB3:=qaa B3;cases b with
 |false=>
  as_aux_lemma=>
   have HN:Hid (¬qay bs NZ OZ):=fun h=>by have:=HBB.out.2 h;cases this
   obtain⟨z0,z1,z2,z3⟩:=HNO.out w3 X3.out;have X6:=qaa z3;clear B3 z3 kx ko kl;go_wp2_with (refine wpList_store_row rfl 24 (.tmp 4) (.tmp 12) rfl (w.heap.size+1) #[.string ⟨#[]⟩,.slice none 0 0,.slice none 0 0] rfl rfl 24 #[.string ⟨#[]⟩,.slice none 0 0,.slice none 0 0] HB3.out HI.out rfl A0.out ?_);refine bodyPost_ret (by simp[results,Tryz.results25,go_sem,z0,z1,z2];try rfl) rfl ?_;exact⟨.inl ⟨HN.out,rfl⟩,X6.out⟩
 |true=>
  as_aux_lemma=>
   obtain⟨h256,NX,OU,rfl,rfl,hM,hRt⟩:=HBB.out.1 rfl;rw[qal] at h256;rw[qal] at c1 c2;have HMM:=qaa hM;have HRT:=qaa hRt;have HC2:Hid (∀V,Below w3.heap.size w3 V→(V.cell? ⟨w.heap.size,0,none⟩=some (.string ⟨bs.toArray⟩)∧V.cell? ⟨w.heap.size,1,none⟩=some (.slice na NX.length nc)∧V.cell? ⟨w.heap.size,2,none⟩=some (.slice oa OU.length oc))∧V.heap[w.heap.size+1]? =some (.cells #[.string ⟨#[]⟩,.slice none 0 0,.slice none 0 0] 24 (0,0))∧NAt V na NX∧NAt V oa OU∧ZAt V la LZ):=fun V x=>by
    obtain⟨q0,q1,q2,q3,q4,q5,q6⟩:=HC.out V (bt X3.out x (Nat.le_refl _));rw[qal] at q1 q2;exact⟨⟨q0,q1,q2⟩,q3,q4.nat,q5.nat,q6⟩
   obtain⟨i3,hi3,hz30,hz31,hz32⟩:=info_parts Tryz.info3n;obtain⟨O0,hO0⟩:∃O,Hid (O=mpO LZ OU):=⟨_,rfl⟩;have hOl:O0.length=OU.length:=by rw[hO0.out,qcp]
   rw[qal,qal];clear B3 kx ko kl hM hRt HBB;go_wp2_with (at_make;refine wpList_make_full _ rfl (.tmp 15) (.tmp 15) 22 rfl w3.heap.size 3 i3 (.int .i64 0) 1 Tryz.underlying22 hi3 hz30 hz31 .i64 .i64 _ _ OU.length rfl rfl rfl rfl (by rw[hz32];omega) (by unfold maxLen;omega) (Nat.le_refl _) ?_;intro wm h1 h2;have XM0:=qaa (qad h2);have OM0:Hid (qan wm w3.heap.size (.slice (some ⟨w3.heap.size,0,none⟩) OU.length OU.length) (O0.take 0++List.replicate (OU.length-0) 0)):=(by unfold Hid qan;rw[qbs] at h1;simpa using h1);clear h1 h2;obtain⟨⟨d0,d1,d2⟩,_⟩:=HC2.out wm XM0.out);go_loopg [20] (OU.length+1) (fun g x wr=>∃i:Nat,x=.int .i64 (i:Nat)∧i≤OU.length∧Hid (qan wr w3.heap.size (.slice (some ⟨w3.heap.size,0,none⟩) OU.length OU.length) (O0.take i++List.replicate (OU.length-i) 0))∧Hid (Below w3.heap.size w3 wr)∧Hid (∀j,j<i→Mpd LZ (gN OU j))∧OU.length-i<g)
   case atStart=>exact⟨0,rfl,by omega,OM0,XM0,fun j hj=>by omega,by omega⟩
   case round=>
    obtain⟨i,rfl,hi1,O,XB,HMP,hg⟩:=hrel;have HG:=qaa hg;clear hg OM0 XM0 d0 d1 d2 c0 c1 c2;obtain⟨⟨d0,d1,d2⟩,BR,kx,ko,kl⟩:=HC2.out wr XB.out;have HBR:=qaa BR;by_cases hi:i<OU.length
    ·have hi':(i:Int)<(OU.length:Int):=by omega
     obtain⟨ob,off,hoa,_,co⟩:=ko.get hi;subst hoa;have hgo:OU[i]=gN OU i:=(qah hi).symm;rw[hgo] at co;have hlo:gN OU i≤65535:=by rw[qah hi];exact HMM.out.lb _ (List.getElem_mem hi)
     by_cases hmd:Mpd LZ (gN OU i)
     ·as_aux_lemma=>
      obtain⟨hm1,hm2⟩:=hmd;obtain⟨lb,loff,hla,cl⟩:=kl.get' hm1;subst hla;have HLB:=fun V=>qc1 (LZ.getD (gN OU i) 0) V
      have hm1':(gN OU i:Int)<(LZ.length:Int):=by omega
      have hm1n:¬(LZ.length:Int)≤(gN OU i:Int):=by omega
      have hm1nn:¬LZ.length≤gN OU i:=by omega
      have hdl:decide (Lab (LZ.getD (gN OU i) 0))=true:=decide_eq_true hm2;rw[hdl] at HLB;have HLB:=qaa HLB;have HMN:Hid (∀j,j<i+1→Mpd LZ (gN OU j)):=fun j hj=>by
       by_cases e:j=i
       ·rw[e];exact⟨hm1,hm2⟩
       ·exact HMP.out j (by omega)
      have hO0l:i<O0.length:=by omega
      obtain⟨x,hx⟩:∃x:Nat,Hid (x=(LZ.getD (gN OU i) 0).toNat):=⟨_,rfl⟩;have hxx:LZ.getD (gN OU i) 0=(x:Int):=by rw[hx.out];unfold Lab at hm2;omega
      have hO0i:O0[i]=x:=by
       have h9:gN O0 i=O0[i]:=qah hO0l;rw[←h9,hO0.out,hx.out];unfold mpO;rw[qah (by rw[List.length_map];exact hi),List.getElem_map,qah hi]
      have e3:(O0.take i++List.replicate (OU.length-i) 0).set i O0[i]=O0.take (i+1)++List.replicate (OU.length-(i+1)) 0:=by
       rw[List.set_append_right _ _ (by simp;omega),List.take_succ_eq_append_getElem hO0l,List.append_assoc]
       congr 1
       obtain⟨q,hq⟩:∃q,OU.length-i=q+1:=⟨OU.length-i-1,by omega⟩;rw[hq,show OU.length-(i+1)=q by omega,show i-(O0.take i).length=0 by simp;omega];rfl
      have hll2:(O0.take i++List.replicate (OU.length-i) 0).length=OU.length:=by simp;omega
      obtain⟨⟨u1,q1⟩,q2⟩:=slotN O.out (i:=i) (by omega);obtain⟨o3,k3⟩:=O.out.store i x;rw[←hO0i,e3] at o3;rw[hO0i] at o3;have ON:=qaa o3;have X5:=qaa (XB.out.trans (k3.below XB.out.size (fun k hk=>by omega)));rw[hxx] at cl HLB;have HLC:Hid (∀V,Calls Tryz.prog 64 #[.int .i64 (x:Int)] V fun e w'=>e=.returned (.bool true)∧w'=V):=HLB;clear HLB;clear e3 hO0i hll2 o3 k3 hdl hxx hm2 kx ko kl BR d0 d1 d2;generalize gN OU i=o at *;go_wp2_with (go_at_call 64;refine(HLC.out _).mono ?_;rintro e w5 ⟨rfl,hw5⟩;have hw5:=hw5.symm;subst hw5);go_roundg (OU.length-(i+1)+1)
      case measure=>have:=HG.out;omega
      case rel=>exact⟨i+1,by first|rfl|go_num|(congr 1;omega),by omega,ON,X5,HMN,by omega⟩
     ·as_aux_lemma=>
      have HEX:Hid (∃i,i<OU.length∧¬Mpd LZ (gN OU i)):=⟨i,hi,hmd⟩;obtain⟨z0,z1,z2,z3⟩:=HNO.out wr (bt X3.out XB.out (Nat.le_refl _));have X6:=qaa z3;have HRES:Hid (MpP bs (zN NX) (zN OU) LZ w.heap.size (.returned (.tuple #[auV [] none 0 0 none 0 0,.int .i64 1])) (wr.setRow (w.heap.size+1) #[.string ⟨#[]⟩,.slice none 0 0,.slice none 0 0])):=.inr ⟨NX,OU,rfl,rfl,HMM.out,HRT.out,h256,.inl ⟨HEX.out,rfl⟩⟩;by_cases hm1:gN OU i<LZ.length
      ·obtain⟨lb,loff,hla,cl⟩:=kl.get' hm1
       subst hla;have hm1':(gN OU i:Int)<(LZ.length:Int):=by omega
       have hm1n:¬(LZ.length:Int)≤(gN OU i:Int):=by omega
       have hm1nn:¬LZ.length≤gN OU i:=by omega
       have HLB:=fun V=>qc1 (LZ.getD (gN OU i) 0) V
       have hdl:decide (Lab (LZ.getD (gN OU i) 0))=false:=decide_eq_false (fun h=>hmd ⟨hm1,h⟩);rw[hdl] at HLB;have HLB:=qaa HLB;clear hmd hdl z3 kx ko kl BR d0 d1 d2;generalize LZ.getD (gN OU i) 0=lv at *;generalize gN OU i=o at *;go_wp2_with (first
        |(go_at_call 64;refine(HLB.out _).mono ?_;rintro e w5 ⟨rfl,hw5⟩;have hw5:=hw5.symm;subst hw5)
        |(refine wpList_store_row rfl 24 (.tmp 4) (.tmp 37) rfl (w.heap.size+1) #[.string ⟨#[]⟩,.slice none 0 0,.slice none 0 0] rfl rfl 24 #[.string ⟨#[]⟩,.slice none 0 0,.slice none 0 0] HBR.out HI.out rfl A0.out ?_))
       refine bodyPost_ret (by simp[results,Tryz.results25,go_sem,z0,z1,z2];try rfl) rfl ?_;exact⟨HRES.out,X6.out⟩
      ·have hm1n:(LZ.length:Int)≤(gN OU i:Int):=by omega
       have hm1nn:LZ.length≤gN OU i:=by omega
       clear hmd z3 kx ko kl BR d0 d1 d2;generalize gN OU i=o at *;go_wp2_with (refine wpList_store_row rfl 24 (.tmp 4) (.tmp 37) rfl (w.heap.size+1) #[.string ⟨#[]⟩,.slice none 0 0,.slice none 0 0] rfl rfl 24 #[.string ⟨#[]⟩,.slice none 0 0,.slice none 0 0] HBR.out HI.out rfl A0.out ?_);refine bodyPost_ret (by simp[results,Tryz.results25,go_sem,z0,z1,z2];try rfl) rfl ?_;exact⟨HRES.out,X6.out⟩
    ·as_aux_lemma=>
     have hi':¬(i:Int)<(OU.length:Int):=by omega
     obtain rfl:i=OU.length:=by omega
     have o4:qan wr w3.heap.size (.slice (some ⟨w3.heap.size,0,none⟩) OU.length OU.length) O0:=by have:=O.out;rwa [Nat.sub_self,List.replicate_zero,List.append_nil,List.take_of_length_le (by omega)] at this
     have HOF:Hid (Calls Tryz.prog 34 #[.agg #[.string ⟨bs.toArray⟩,.slice na NX.length nc,.slice (some ⟨w3.heap.size,0,none⟩) OU.length OU.length]] wr fun e w'=>qhb bs NX O0 wr.heap.size e w'∧Below wr.heap.size wr w'):=by
      have hM:=qhw HMM.out HMP.out;rw[←hO0.out] at hM;have:=qcf bs na (some ⟨w3.heap.size,0,none⟩) nc OU.length NX O0 wr hM kx (qan.nat o4);rw[hOl] at this;exact this
     have HNW:Hid (w.heap.size+1<w3.heap.size):=lt_of_block HB3.out;clear o4 kx ko kl BR;go_wp2_with (fail);refine HOF.out.mono ?_;rintro e w5 ⟨hP,x5⟩;obtain⟨bs',ya,yn,yc,oa',on,oc',mm,rfl⟩:=hP.shape;have X5:=qaa (bt XB.out x5 (Nat.le_refl _));obtain⟨_,B4,_⟩:=HC2.out w5 X5.out;have A4:Hid ((#[.string ⟨bs'.toArray⟩,.slice ya yn yc,.slice oa' on oc']:Array Value).all (·.oneCell')=true):=by unfold Hid;simp[Value.oneCell']
     have HB4:=qaa B4;have B6:=setRow_heap w5 (w.heap.size+1) _ #[.string ⟨bs'.toArray⟩,.slice ya yn yc,.slice oa' on oc'] 24 (0,0) B4;have k6:Kept (fun k=>k=w.heap.size+1) w5 (w5.setRow (w.heap.size+1) #[.string ⟨bs'.toArray⟩,.slice ya yn yc,.slice oa' on oc']):=qas;have x9:=bt HX2.out (bt X3.out X5.out (Nat.le_refl _)) (Nat.le_refl _);have X9:=qaa (x9.trans (k6.below x9.size (fun b hb=>by omega)));have hs3:=XB.out.size;have hsw:=HNW.out;have HP6:=qaa (hP.kept k6 (by omega) (show w.heap.size≤wr.heap.size by omega));have z0:=cell_of_row _ _ 0 _ _ _ B6;have z1:=cell_of_row _ _ 1 _ _ _ B6;have z2:=cell_of_row _ _ 2 _ _ _ B6;clear B6 k6 B4 x9 x5 hP HOF;go_wp2_with (refine wpList_store_row rfl 24 (.tmp 4) (.tmp 53) rfl (w.heap.size+1) #[.string ⟨bs'.toArray⟩,.slice ya yn yc,.slice oa' on oc'] rfl rfl 24 #[.string ⟨#[]⟩,.slice none 0 0,.slice none 0 0] HB4.out HI.out rfl A4.out ?_);refine bodyPost_ret (by simp[results,Tryz.results25,go_sem,z0,z1,z2];try rfl) rfl ?_;refine⟨.inr ⟨NX,OU,rfl,rfl,HMM.out,HRT.out,h256,.inr ⟨HMP.out,?_⟩⟩,X9.out⟩;have:=HP6.out;rw[hO0.out] at this;exact this
end Go.Proofs.YtdgoilkgplnhfaaGreat

