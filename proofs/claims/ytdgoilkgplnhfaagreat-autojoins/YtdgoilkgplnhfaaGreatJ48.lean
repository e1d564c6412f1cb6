/-
  The document's Map by its contract: what the program's tells. Condition: lists no longer than a process can hold.
-/
import Derived.Test.YtdgoilkgplnhfaaGreatJ47
import Derived.Test.YtdgoilkgplnhfaaGreatJ45
namespace Go.Proofs.YtdgoilkgplnhfaaGreat
open Go.RowKit Go.Lib
theorem qma {LZ:List Int} {OU:List Nat} {i:Nat} (h:i<OU.length):mpO LZ (OU.take i)++[(LZ.getD (gN OU i) 0).toNat]=mpO LZ (OU.take (i+1)):=by
 rw[List.take_succ_eq_append_getElem h,qah h];simp only[mpO,List.map_append,List.map_cons,List.map_nil]
theorem qkj {bs:By} {NX OU:List Nat} {LZ:List Int} (hM:qbv bs NX OU) (hr:(dfA bs NX OU).Right) (hm:∀i,i<OU.length→Mpd LZ (gN OU i)):qcr bs (zN NX) (zN (mpO LZ OU)):=by
 have hM2:=qhw hM hm;obtain⟨m1,m2,m3,m4,m5,-⟩:=qdv hM hr;rw[qal] at m2 m3 m5;rw[qal,qal] at m4;refine⟨m1,by rw[qal,qcp];exact m2,by rw[qal,qcp];exact m3,by rw[qal,qal,qcp];exact m4,by rw[qal,qcp];exact m5,?_⟩;rw[List.any_eq_false];intro y hy;obtain⟨z,hz,rfl⟩:=List.mem_map.1 hy;have:=hM2.lb z hz;have hl:Lab ((z:Nat):Int):=by unfold Lab;omega
 simp[nlB,hl]
set_option maxRecDepth 100000 in
set_option maxHeartbeats 8000000 in
theorem qkk (bs:By) (na oa la:Option Addr) (nc oc lc:Nat) (NZ OZ LZ:List Int) (w:World) (hnl:NZ.length≤140737488351232) (hol:OZ.length≤140737488351232) (hnx:ZAt w na NZ) (hou:ZAt w oa OZ) (hla:ZAt w la LZ) (hno:¬qay bs NZ OZ):
 Calls Tryz.prog 26 #[auV bs na NZ.length nc oa OZ.length oc,.slice la LZ.length lc] w fun e w'=>e=.returned (.tuple #[.agg #[.string ⟨#[]⟩,.slice none 0 0,.slice none 0 0],.int .i64 1])∧Below w.heap.size w w':=by
 obtain⟨w2,hw2⟩:∃w2,w2=(w.alloc (.cells #[.string ⟨bs.toArray⟩,.slice na NZ.length nc,.slice oa OZ.length oc] 24)).alloc (.cells #[.string ⟨#[]⟩,.slice none 0 0,.slice none 0 0] 24):=⟨_,rfl⟩;obtain⟨X2,B1,B2,hs2⟩:=qap w #[.string ⟨bs.toArray⟩,.slice na NZ.length nc,.slice oa OZ.length oc] #[.string ⟨#[]⟩,.slice none 0 0,.slice none 0 0] 24 24;rw[←hw2] at X2 B1 B2 hs2;have HC:Hid (∀V,Below w2.heap.size w2 V→V.cell? ⟨w.heap.size,0,none⟩=some (.string ⟨bs.toArray⟩)∧V.cell? ⟨w.heap.size,1,none⟩=some (.slice na NZ.length nc)∧V.cell? ⟨w.heap.size,2,none⟩=some (.slice oa OZ.length oc)∧V.heap[w.heap.size+1]? =some (.cells #[.string ⟨#[]⟩,.slice none 0 0,.slice none 0 0] 24 (0,0))∧ZAt V na NZ∧ZAt V oa OZ∧ZAt V la LZ):=fun V x=>by
  have Bv:=(x.block _ (lt_of_block B1)).trans B1;exact⟨by rw[cell_of_row _ _ _ _ _ _ Bv];rfl,by rw[cell_of_row _ _ _ _ _ _ Bv];rfl,by rw[cell_of_row _ _ _ _ _ _ Bv];rfl,(x.block _ (lt_of_block B2)).trans B2,hnx.below (bt X2 x (Nat.le_refl _)),hou.below (bt X2 x (Nat.le_refl _)),hla.below (bt X2 x (Nat.le_refl _))⟩
 have HX2:=qaa X2;have HS2:=qaa hs2;obtain⟨c0,c1,c2,_,kx,ko,_⟩:=HC.out w2 (Below.refl _ _);have HR:=qaa (qct bs na oa nc oc NZ OZ w2 hnl hol kx ko);have HI:Hid ((Tryz.prog.info? 24).map (·.size)=some 3):=by unfold Hid;kernel_rfl
 have A0:Hid ((#[.string ⟨#[]⟩,.slice none 0 0,.slice none 0 0]:Array Value).all (·.oneCell')=true):=by unfold Hid;simp[Value.oneCell']
 have HNO:Hid (∀V,Below w2.heap.size w2 V→(V.setRow (w.heap.size+1) #[.string ⟨#[]⟩,.slice none 0 0,.slice none 0 0]).cell? ⟨w.heap.size+1,0,none⟩=some (.string ⟨#[]⟩)∧(V.setRow (w.heap.size+1) #[.string ⟨#[]⟩,.slice none 0 0,.slice none 0 0]).cell? ⟨w.heap.size+1,1,none⟩=some (.slice none 0 0)∧(V.setRow (w.heap.size+1) #[.string ⟨#[]⟩,.slice none 0 0,.slice none 0 0]).cell? ⟨w.heap.size+1,2,none⟩=some (.slice none 0 0)∧Below w.heap.size w (V.setRow (w.heap.size+1) #[.string ⟨#[]⟩,.slice none 0 0,.slice none 0 0])):=fun V x=>by
  have B3:=(HC.out V x).2.2.2.1;have B6:=setRow_heap V (w.heap.size+1) _ #[.string ⟨#[]⟩,.slice none 0 0,.slice none 0 0] 24 (0,0) B3;have k6:Kept (fun k=>k=w.heap.size+1) V (V.setRow (w.heap.size+1) #[.string ⟨#[]⟩,.slice none 0 0,.slice none 0 0]):=qas;have x3:=bt HX2.out x (Nat.le_refl _);exact⟨by rw[cell_of_row _ _ _ _ _ _ B6];rfl,by rw[cell_of_row _ _ _ _ _ _ B6];rfl,by rw[cell_of_row _ _ _ _ _ _ B6];rfl,x3.trans (k6.below x3.size (fun b hb=>by omega))⟩
 clear X2 B1 B2 hs2 hnx hou hla kx ko;unfold auV at HR ⊢;go_enter Tryz.func26,Tryz.ntmps26;go_upto_region 1 with fail
 rw[←hw2];clear hw2;go_wp2_with (fail);refine HR.out.mono ?_;rintro e w3 ⟨⟨b,rfl,hb⟩,x3⟩;obtain rfl:b=false:=by
  cases b with
  |false=>rfl
  |true=>exact absurd (hb.1 rfl) hno
 have X3:=qaa x3;clear HR c0 c1 c2 hb x3;obtain⟨c0,c1,c2,B3,kx,ko,kl⟩:=HC.out w3 X3.out;have HB3:=qaa B3;obtain⟨z0,z1,z2,z3⟩:=HNO.out w3 X3.out;have X6:=qaa z3;clear B3 z3 kx ko kl;go_wp2_with (refine wpList_store_row rfl 24 (.tmp 4) (.tmp 13) rfl (w.heap.size+1) #[.string ⟨#[]⟩,.slice none 0 0,.slice none 0 0] rfl rfl 24 #[.string ⟨#[]⟩,.slice none 0 0,.slice none 0 0] HB3.out HI.out rfl A0.out ?_);refine bodyPost_ret (by simp[results,Tryz.results26,go_sem,z0,z1,z2];try rfl) rfl ?_;exact⟨rfl,X6.out⟩
def MpQ (bs:By) (NX OU:List Nat) (LZ:List Int) (base:Nat) (e:Ending) (w:World):Prop:=((∃i,i<OU.length∧¬Mpd LZ (gN OU i))∧e=.returned (.tuple #[.agg #[.string ⟨#[]⟩,.slice none 0 0,.slice none 0 0],.int .i64 1]))∨((∀i,i<OU.length→Mpd LZ (gN OU i))∧qhb bs NX (mpO LZ OU) base e w)
set_option maxRecDepth 100000 in
set_option maxHeartbeats 8000000 in
theorem qim (bs:By) (na oa la:Option Addr) (nc oc lc:Nat) (NX OU:List Nat) (LZ:List Int) (w:World) (hA:AtA w bs na oa NX OU) (hla:ZAt w la LZ):
 Calls Tryz.prog 26 #[auV bs na NX.length nc oa OU.length oc,.slice la LZ.length lc] w fun e w'=>MpQ bs NX OU LZ w.heap.size e w'∧Below w.heap.size w w':=by
 obtain⟨w2,hw2⟩:∃w2,w2=(w.alloc (.cells #[.string ⟨bs.toArray⟩,.slice na NX.length nc,.slice oa OU.length oc] 24)).alloc (.cells #[.string ⟨#[]⟩,.slice none 0 0,.slice none 0 0] 24):=⟨_,rfl⟩;obtain⟨X2,B1,B2,hs2⟩:=qap w #[.string ⟨bs.toArray⟩,.slice na NX.length nc,.slice oa OU.length oc] #[.string ⟨#[]⟩,.slice none 0 0,.slice none 0 0] 24 24;rw[←hw2] at X2 B1 B2 hs2;have HC:Hid (∀V,Below w2.heap.size w2 V→V.cell? ⟨w.heap.size,0,none⟩=some (.string ⟨bs.toArray⟩)∧V.cell? ⟨w.heap.size,1,none⟩=some (.slice na NX.length nc)∧V.cell? ⟨w.heap.size,2,none⟩=some (.slice oa OU.length oc)∧V.heap[w.heap.size+1]? =some (.cells #[.string ⟨#[]⟩,.slice none 0 0,.slice none 0 0] 24 (0,0))∧NAt V na NX∧NAt V oa OU∧ZAt V la LZ):=fun V x=>by
  have Bv:=(x.block _ (lt_of_block B1)).trans B1;exact⟨by rw[cell_of_row _ _ _ _ _ _ Bv];rfl,by rw[cell_of_row _ _ _ _ _ _ Bv];rfl,by rw[cell_of_row _ _ _ _ _ _ Bv];rfl,(x.block _ (lt_of_block B2)).trans B2,hA.nx.below (bt X2 x (Nat.le_refl _)),hA.ou.below (bt X2 x (Nat.le_refl _)),hla.below (bt X2 x (Nat.le_refl _))⟩
 have HX2:=qaa X2;have HS2:=qaa hs2;obtain⟨c0,c1,c2,_,kx,ko,_⟩:=HC.out w2 (Below.refl _ _);have HR:=qaa ((hA.below HX2.out).rightD nc oc);have HI:Hid ((Tryz.prog.info? 24).map (·.size)=some 3):=by unfold Hid;kernel_rfl
 have A0:Hid ((#[.string ⟨#[]⟩,.slice none 0 0,.slice none 0 0]:Array Value).all (·.oneCell')=true):=by unfold Hid;simp[Value.oneCell']
 have HNO:Hid (∀V,Below w2.heap.size w2 V→(V.setRow (w.heap.size+1) #[.string ⟨#[]⟩,.slice none 0 0,.slice none 0 0]).cell? ⟨w.heap.size+1,0,none⟩=some (.string ⟨#[]⟩)∧(V.setRow (w.heap.size+1) #[.string ⟨#[]⟩,.slice none 0 0,.slice none 0 0]).cell? ⟨w.heap.size+1,1,none⟩=some (.slice none 0 0)∧(V.setRow (w.heap.size+1) #[.string ⟨#[]⟩,.slice none 0 0,.slice none 0 0]).cell? ⟨w.heap.size+1,2,none⟩=some (.slice none 0 0)∧Below w.heap.size w (V.setRow (w.heap.size+1) #[.string ⟨#[]⟩,.slice none 0 0,.slice none 0 0])):=fun V x=>by
  have B3:=(HC.out V x).2.2.2.1;have B6:=setRow_heap V (w.heap.size+1) _ #[.string ⟨#[]⟩,.slice none 0 0,.slice none 0 0] 24 (0,0) B3;have k6:Kept (fun k=>k=w.heap.size+1) V (V.setRow (w.heap.size+1) #[.string ⟨#[]⟩,.slice none 0 0,.slice none 0 0]):=qas;have x3:=bt HX2.out x (Nat.le_refl _);exact⟨by rw[cell_of_row _ _ _ _ _ _ B6];rfl,by rw[cell_of_row _ _ _ _ _ _ B6];rfl,by rw[cell_of_row _ _ _ _ _ _ B6];rfl,x3.trans (k6.below x3.size (fun b hb=>by omega))⟩
 have HMM:=qaa hA.may;have HRT:=qaa hA.rt;have h256:=hA.n;clear X2 B1 B2 hs2 hA hla kx ko;unfold auV;go_enter Tryz.func26,Tryz.ntmps26;go_upto_region 1 with fail
 rw[←hw2];clear hw2;go_wp2_with (fail);refine HR.out.mono ?_;rintro e w3 ⟨rfl,x3⟩;have X3:=qaa x3;clear HR c0 c1 c2 x3;obtain⟨c0,c1,c2,B3,kx,ko,kl⟩:=HC.out w3 X3.out;have HB3:=qaa B3;have hM:=HMM.out;have HC2:Hid (∀V,Below w3.heap.size w3 V→(V.cell? ⟨w.heap.size,0,none⟩=some (.string ⟨bs.toArray⟩)∧V.cell? ⟨w.heap.size,1,none⟩=some (.slice na NX.length nc)∧V.cell? ⟨w.heap.size,2,none⟩=some (.slice oa OU.length oc))∧V.heap[w.heap.size+1]? =some (.cells #[.string ⟨#[]⟩,.slice none 0 0,.slice none 0 0] 24 (0,0))∧NAt V na NX∧NAt V oa OU∧ZAt V la LZ):=fun V x=>by
  obtain⟨q0,q1,q2,q3,q4,q5,q6⟩:=HC.out V (bt X3.out x (Nat.le_refl _));exact⟨⟨q0,q1,q2⟩,q3,q4,q5,q6⟩
 obtain⟨i3,hi3,hz30,hz31,hz32⟩:=info_parts Tryz.info3n;have hn0:=hM.n0;have hNX:NX.length≤65536:=by
  have h1:=hM.wl;have h3:OU.length*(NX.length/OU.length)≤256*256:=Nat.mul_le_mul h256 hM.w1;omega
 have hNX0:0<NX.length:=by
  have h1:=hM.bw 0 (by decide);rcases Nat.eq_zero_or_pos NX.length with h|h
  ·rw[h,Nat.zero_div] at h1;omega
  ·exact h
 obtain⟨nb,noff,hna,hnb,-⟩:=kx.get hNX0;subst hna;have F5:=qaa ((Fr.start w3).box 24 [.string ⟨bs.toArray⟩,.slice none 0 0,.slice none 0 0] (by simp[maxLen]));have HNW:Hid (w.heap.size+1<w3.heap.size):=lt_of_block HB3.out;clear B3 kx ko kl hM;go_upto_region 5 with fail
 obtain⟨w6,hw6⟩:∃w6,w6=w3.alloc (.cells #[.string ⟨bs.toArray⟩,.slice none 0 0,.slice none 0 0] 24):=⟨_,rfl⟩;obtain⟨bx,hbx⟩:∃bx,bx=w3.heap.size:=⟨_,rfl⟩;have F6:Hid (Fr w3 [(.slice none 0 0,3,qab []),(.slice (some ⟨bx,0,none⟩) 3 3,24,[.string ⟨bs.toArray⟩,.slice none 0 0,.slice none 0 0])] w6):=by rw[hw6,hbx];exact Fr.front (F5.out.bare 3)
 rw[←hw6,←hbx];clear hw6 hbx F5 c0 c1 c2;obtain⟨⟨c0,c1,c2⟩,_,kx,_,_⟩:=HC2.out w6 F6.out.bel;have NW:Hid (∀(j:Nat) (u:Value),(qab NX)[j]? =some u→w6.cell? ((⟨nb,noff,none⟩:Addr).add j)=some u):=fun j u hu=>by
  have hj:j<NX.length:=by
   rcases Nat.lt_or_ge j NX.length with h|h
   ·exact h
   ·rw[List.getElem?_eq_none (by rw[qaf];exact h)] at hu;cases hu
  rw[qbu,kx.atG hj,qah hj];rw[←hu];simp[qab,hj]
 have LN:Hid ((qab NX).length=NX.length*1):=by unfold Hid;rw[qaf];omega
 have ONE:Hid (∀u∈qab NX,u.oneCell'=true):=fun u hu=>by
  obtain⟨z,_,rfl⟩:=List.mem_map.1 hu;rfl
 have SZ6:Hid (w3.heap.size≤w6.heap.size):=F6.out.bel.size;obtain⟨y0,y1⟩:=F6.out.slot (i:=1) (by simp) rfl (k:=1) (by simp);simp only[List.getElem_cons_succ,List.getElem_cons_zero] at y0;clear kx;go_upto_region 6 with(at_builtin;refine wpList_append_own_at _ rfl (.tmp 18) (.tmp 20) 22 rfl w3.heap.size 3 i3 (.int .i64 0) 1 8 Tryz.underlying22 hi3 hz30 hz31 hz32 rfl (by decide) (.slice none 0 0) 0 [] rfl (World.ownsRow_nil _ _ _ _) ⟨nb,noff,none⟩ NX.length nc (qab NX) rfl LN.out NW.out ONE.out (by unfold maxLen;omega) (by omega) SZ6.out ?_;intro v7 w7 h1 h2 h3 h4;rw[Nat.zero_add,List.nil_append] at h1;obtain⟨xa,xc,rfl,_⟩:=qag h1;have F7:Hid (Fr w3 ((.slice xa NX.length xc,3,qab NX)::[(.slice none 0 0,3,qab []),(.slice (some ⟨bx,0,none⟩) 3 3,24,[.string ⟨bs.toArray⟩,.slice none 0 0,.slice none 0 0])]) w7):=(Fr.front (F6.out.cons (qad h2) (by rw[qaf];exact h1) (fun b hb=>by rcases h4 with e|e;(rw[e] at hb;cases hb);(rw[e] at hb;have:=Option.some.inj hb;omega))));obtain⟨z0,z1⟩:=F7.out.slot (i:=2) (by simp) rfl (k:=1) (by simp);simp only[List.getElem_cons_succ,List.getElem_cons_zero] at z0;have F8:Hid (Fr w3 [(.slice xa NX.length xc,3,qab NX),(.slice none 0 0,3,qab []),(.slice (some ⟨bx,0,none⟩) 3 3,24,[.string ⟨bs.toArray⟩,.slice xa NX.length xc,.slice none 0 0])] (w7.setCell ⟨bx,1,none⟩ (.slice xa NX.length xc))):=(F7.out.store (i:=2) (by simp) rfl 1 _);clear h1 h2 h3 h4)
 clear y0 y1 z0 z1 F6 F7 NW LN ONE SZ6 c0 c1 c2;generalize w7.setCell ⟨bx,1,none⟩ (.slice xa NX.length xc)=w8 at *;have O0:Hid (([]:List Nat)=mpO LZ (OU.take 0)):=by unfold Hid;simp[mpO]
 go_wp2;go_loopg [8] (OU.length+1) (fun g y wr=>∃(i:Nat) (O:List Nat) (ov:Value),y=.int .i64 (i:Nat)∧i≤OU.length∧Hid (O=mpO LZ (OU.take i))∧Hid (Fr w3 [(.slice xa NX.length xc,3,qab NX),(ov,3,qab O),(.slice (some ⟨bx,0,none⟩) 3 3,24,[.string ⟨bs.toArray⟩,.slice xa NX.length xc,ov])] wr)∧Hid (∀j,j<i→Mpd LZ (gN OU j))∧OU.length-i<g)
 case atStart=>exact⟨0,[],_,rfl,by omega,O0,F8,fun j hj=>by omega,by omega⟩
 case round=>
  clear O0 F8;obtain⟨i,O,ov,rfl,hi1,HO,FR,HMP,hg⟩:=hrel;have HG:=qaa hg;clear hg;obtain⟨⟨c0,c1,c2⟩,BR,kx,ko,kl⟩:=HC2.out wr FR.out.bel;have HBR:=qaa BR;by_cases hi:i<OU.length
  ·have hi':(i:Int)<(OU.length:Int):=by omega
   obtain⟨ob,off,hoa,_,co⟩:=ko.get hi;subst hoa;rw[←qah hi] at co;have hlo:gN OU i≤65535:=by rw[qah hi];exact HMM.out.lb _ (List.getElem_mem hi)
   by_cases hmd:Mpd LZ (gN OU i)
   ·as_aux_lemma=>
    obtain⟨hm1,hm2⟩:=hmd;obtain⟨lb,loff,hla,cl⟩:=kl.get' hm1;subst hla;have hm1':(gN OU i:Int)<(LZ.length:Int):=by omega
    have hm1n:¬(LZ.length:Int)≤(gN OU i:Int):=by omega
    have HMN:Hid (∀j,j<i+1→Mpd LZ (gN OU j)):=fun j hj=>by
     by_cases e:j=i
     ·rw[e];exact⟨hm1,hm2⟩
     ·exact HMP.out j (by omega)
    have HO2:Hid (O++[(LZ.getD (gN OU i) 0).toNat]=mpO LZ (OU.take (i+1))):=by unfold Hid;rw[HO.out];exact qma hi
    obtain⟨x,hx⟩:∃x:Nat,(LZ.getD (gN OU i) 0).toNat=x:=⟨_,rfl⟩;have hxx:LZ.getD (gN OU i) 0=(x:Int):=by rw[←hx];unfold Lab at hm2;omega
    have hx65:x≤65535:=by unfold Lab at hm2;omega
    rw[hx] at HO2;rw[hxx] at cl;have hx0:¬(x:Int)<0:=by omega
    have hx6:¬(65535:Int)<(x:Int):=by omega
    have hOl:O.length≤256:=by rw[HO.out,qcp,List.length_take];omega
    have HSE:Hid (∀(oo:Value) (OO:List Nat) V,Fr w3 [(.slice xa NX.length xc,3,qab NX),(oo,3,qab OO),(.slice (some ⟨bx,0,none⟩) 3 3,24,[.string ⟨bs.toArray⟩,.slice xa NX.length xc,ov])] V→(fun V=>V.cell? ⟨bx,2,none⟩=some ov∧V.cell? ⟨w.heap.size,2,none⟩=some (.slice (some ⟨ob,off,none⟩) OU.length oc)∧V.cell? ⟨ob,off+i,none⟩=some (.int .i64 ((gN OU i:Nat):Int))∧V.cell? ⟨lb,loff+gN OU i,none⟩=some (.int .i64 (x:Int))) V):=fun oo OO V F=>by
     obtain⟨⟨_,_,d2⟩,_,_,ko,kl⟩:=HC2.out V F.bel;obtain⟨lb2,loff2,e2,cl2⟩:=kl.get' hm1;cases e2;obtain⟨y0,-⟩:=F.slot (i:=2) (by simp) rfl (k:=2) (by simp);simp only[List.getElem_cons_succ,List.getElem_cons_zero] at y0;exact⟨y0,d2,ko.atG hi,by rw[cl2,hxx]⟩
    clear hx hxx hm2 kx ko kl BR HO;generalize gN OU i=o at *;go_wp2;have FD:=qaa (FR.out.drew 1);have XD:wr.drewN 1=wr.drew:=rfl;rw[XD] at FD;clear XD;refine qco (S:=fun V=>V.cell? ⟨bx,2,none⟩=some ov∧V.cell? ⟨w.heap.size,2,none⟩=some (.slice (some ⟨ob,off,none⟩) OU.length oc)∧V.cell? ⟨ob,off+i,none⟩=some (.int .i64 (o:Int))∧V.cell? ⟨lb,loff+o,none⟩=some (.int .i64 (x:Int))) 13 (by kernel_rfl) ?_;generalize wr.drew=wd at *;have HS0:Hid ((fun V=>V.cell? ⟨bx,2,none⟩=some ov∧V.cell? ⟨w.heap.size,2,none⟩=some (.slice (some ⟨ob,off,none⟩) OU.length oc)∧V.cell? ⟨ob,off+i,none⟩=some (.int .i64 (o:Int))∧V.cell? ⟨lb,loff+o,none⟩=some (.int .i64 (x:Int))) wd):=HSE.out _ _ wd FD.out;clear c0 c1 c2 co cl;refine qaj.tk 0 rfl 61 HS0.out (fun w' ⟨q0,q1,q2,q3⟩=>by go_simp;first|done|rfl) ?_
    try simp only[Act.put,List.setIfInBounds_toArray,List.set_cons_zero,List.set_cons_succ]
    refine qaj.tk 1 rfl 62 HS0.out (fun w' ⟨q0,q1,q2,q3⟩=>by go_simp;first|done|rfl) ?_
    try simp only[Act.put,List.setIfInBounds_toArray,List.set_cons_zero,List.set_cons_succ]
    refine qaj.tk 2 rfl 63 HS0.out (fun w' ⟨q0,q1,q2,q3⟩=>by go_simp;first|done|rfl) ?_
    try simp only[Act.put,List.setIfInBounds_toArray,List.set_cons_zero,List.set_cons_succ]
    refine qaj.tk 3 rfl 64 HS0.out (fun w' ⟨q0,q1,q2,q3⟩=>by go_simp;first|done|rfl) ?_
    try simp only[Act.put,List.setIfInBounds_toArray,List.set_cons_zero,List.set_cons_succ]
    refine qaj.tk 4 rfl 65 HS0.out (fun w' ⟨q0,q1,q2,q3⟩=>by go_simp;first|done|rfl) ?_
    try simp only[Act.put,List.setIfInBounds_toArray,List.set_cons_zero,List.set_cons_succ]
    refine qaj.tk 5 rfl 66 HS0.out (fun w' ⟨q0,q1,q2,q3⟩=>by go_simp;first|done|rfl) ?_
    try simp only[Act.put,List.setIfInBounds_toArray,List.set_cons_zero,List.set_cons_succ]
    refine qaj.tk 6 rfl 67 HS0.out (fun w' ⟨q0,q1,q2,q3⟩=>by go_simp;first|done|rfl) ?_
    try simp only[Act.put,List.setIfInBounds_toArray,List.set_cons_zero,List.set_cons_succ]
    refine qaj.tk 7 rfl 68 HS0.out (fun w' ⟨q0,q1,q2,q3⟩=>by go_simp;first|done|rfl) ?_
    try simp only[Act.put,List.setIfInBounds_toArray,List.set_cons_zero,List.set_cons_succ]
    refine qaj.tk 8 rfl 69 HS0.out (fun w' ⟨q0,q1,q2,q3⟩=>by go_simp;first|done|rfl) ?_
    try simp only[Act.put,List.setIfInBounds_toArray,List.set_cons_zero,List.set_cons_succ]
    refine qaj.tk 9 rfl 70 HS0.out (fun w' ⟨q0,q1,q2,q3⟩=>by go_simp;first|done|rfl) ?_
    try simp only[Act.put,List.setIfInBounds_toArray,List.set_cons_zero,List.set_cons_succ]
    try simp only[Act.put,List.setIfInBounds_toArray,List.set_cons_zero,List.set_cons_succ]
    obtain⟨q1,q2,q3⟩:=FD.out.pre (i:=1) (by simp) rfl ((x:Nat):Int);have Q1:Hid ((wd.alloc (.cells #[.int .i64 (x:Int)] 3)).ownsRow w3.heap.size 3 1 ov O.length (qab O)):=q1;have Q2:Hid (∀(j:Nat) (u:Value),[Value.int .i64 (x:Int)][j]? =some u→(wd.alloc (.cells #[.int .i64 (x:Int)] 3)).cell? ((⟨wd.heap.size,0,none⟩:Addr).add j)=some u):=q2;have Q3:Hid (w3.heap.size≤(wd.alloc (.cells #[.int .i64 (x:Int)] 3)).heap.size):=q3;have YD:Hid (Below wd.heap.size wd (wd.alloc (.cells #[.int .i64 (x:Int)] 3))):=al (Below.refl _ _) _;have HS1:Hid ((fun V=>V.cell? ⟨bx,2,none⟩=some ov∧V.cell? ⟨w.heap.size,2,none⟩=some (.slice (some ⟨ob,off,none⟩) OU.length oc)∧V.cell? ⟨ob,off+i,none⟩=some (.int .i64 (o:Int))∧V.cell? ⟨lb,loff+o,none⟩=some (.int .i64 (x:Int))) (wd.alloc (.cells #[.int .i64 (x:Int)] 3))):=HSE.out _ _ _ (FD.out.below YD.out);have HPU:Hid (∀(g7 cap7:Nat) (w7:World),w7.ownsRow w3.heap.size 3 1 (.slice (some ⟨g7,0,none⟩) (O.length+1) cap7) (O.length+1) (qab O++[.int .i64 (x:Int)])→(wd.alloc (.cells #[.int .i64 (x:Int)] 3)).grownBy w7 ov.ownBlock→(ov.ownBlock=some g7∨g7=(wd.alloc (.cells #[.int .i64 (x:Int)] 3)).heap.size)→Fr w3 [(.slice xa NX.length xc,3,qab NX),(.slice (some ⟨g7,0,none⟩) (O.length+1) cap7,3,qab (O++[x])),(.slice (some ⟨bx,0,none⟩) 3 3,24,[.string ⟨bs.toArray⟩,.slice xa NX.length xc,ov])] w7):=fun g7 cap7 w7 h1 h2 h3=>by
     rw[qa1];have:=FD.out.lies (al (Below.refl _ _) _) (i:=1) (by simp) rfl (g6:=g7) (cap6:=cap7) (x:=.int .i64 ((x:Nat):Int)) (by rw[qaf];exact h1) h2 h3;rw[qaf] at this;exact this
    clear q1 q2 q3;refine qaj.step (i:=10) (by kernel_rfl) rfl (fun K hK=>?_);go_simp;refine hK _ _ HS1.out ?_;clear hK K;refine qaj.step (i:=11) (by kernel_rfl) rfl (fun K hK=>?_);refine step_append_lies _ (by rfl) (.tmp 62) (.tmp 71) 22 (by rfl) w3.heap.size 3 i3 (.int .i64 0) 1 8 Tryz.underlying22 hi3 hz30 hz31 hz32 rfl (by decide) _ O.length (qab O) (by rfl) Q1.out ⟨wd.heap.size,0,none⟩ 1 1 [.int .i64 (x:Int)] (by rfl) (by rfl) Q2.out (by simp[Value.oneCell']) (by decide) (by unfold maxLen;omega) (by omega) Q3.out _ rfl ?_;intro g7 cap7 w7 h1 h2 h3 h4;have F7:=qaa (HPU.out g7 cap7 w7 h1 h2 h3);have HS2:Hid ((fun V=>V.cell? ⟨bx,2,none⟩=some ov∧V.cell? ⟨w.heap.size,2,none⟩=some (.slice (some ⟨ob,off,none⟩) OU.length oc)∧V.cell? ⟨ob,off+i,none⟩=some (.int .i64 (o:Int))∧V.cell? ⟨lb,loff+o,none⟩=some (.int .i64 (x:Int))) w7):=HSE.out _ _ w7 F7.out;refine hK _ _ HS2.out ?_;refine qaj.tk 12 rfl 73 HS2.out (fun w' ⟨q0,q1,q2,q3⟩=>by go_simp;first|done|rfl) ?_
    try simp only[Act.put,List.setIfInBounds_toArray]
    clear hK K h1 h2 h3 h4 HPU Q1 Q2 Q3 YD HS0 HS1 HSE FD FR;obtain⟨z0,z1⟩:=F7.out.slot (i:=2) (by simp) rfl (k:=2) (by simp);simp only[List.getElem_cons_succ,List.getElem_cons_zero] at z0;have F8:Hid (Fr w3 [(.slice xa NX.length xc,3,qab NX),(.slice (some ⟨g7,0,none⟩) (O.length+1) cap7,3,qab (O++[x])),(.slice (some ⟨bx,0,none⟩) 3 3,24,[.string ⟨bs.toArray⟩,.slice xa NX.length xc,.slice (some ⟨g7,0,none⟩) (O.length+1) cap7])] (w7.setCell ⟨bx,2,none⟩ (.slice (some ⟨g7,0,none⟩) (O.length+1) cap7))):=F7.out.store (i:=2) (by simp) rfl 2 _;refine qaj.last (by kernel_rfl) rfl (by kernel_rfl) (by kernel_rfl) (fun K hK=>?_);go_simp;refine hK _ _ ?_;clear hK K z0 z1 F7 HS2;generalize w7.setCell ⟨bx,2,none⟩ (.slice (some ⟨g7,0,none⟩) (O.length+1) cap7)=w8 at *;go_wp2;go_roundg (OU.length-(i+1)+1)
    case measure=>have:=HG.out;omega
    case rel=>exact⟨i+1,O++[x],_,by first|rfl|go_num|(congr 1;omega),by omega,HO2,F8,HMN,by omega⟩
   ·as_aux_lemma=>
    have HEX:Hid (∃i,i<OU.length∧¬Mpd LZ (gN OU i)):=⟨i,hi,hmd⟩;have XW:=qaa FR.out.bel;obtain⟨z0,z1,z2,z3⟩:=HNO.out wr (bt X3.out XW.out (Nat.le_refl _));have X6:=qaa z3;have HRES:Hid (MpQ bs NX OU LZ w.heap.size (.returned (.tuple #[.agg #[.string ⟨#[]⟩,.slice none 0 0,.slice none 0 0],.int .i64 1])) (wr.setRow (w.heap.size+1) #[.string ⟨#[]⟩,.slice none 0 0,.slice none 0 0])):=.inl ⟨HEX.out,rfl⟩;by_cases hm1:gN OU i<LZ.length
    ·obtain⟨lb,loff,hla,cl⟩:=kl.get' hm1
     subst hla;have hm1':(gN OU i:Int)<(LZ.length:Int):=by omega
     have hm1n:¬(LZ.length:Int)≤(gN OU i:Int):=by omega
     have hlv:¬Lab (LZ.getD (gN OU i) 0):=fun h=>hmd ⟨hm1,h⟩
     clear hmd z3 kx ko kl BR;generalize LZ.getD (gN OU i) 0=lv at *;generalize gN OU i=o at *;by_cases hn:lv<0
     ·clear hlv
      go_wp2_with (refine wpList_store_row rfl 24 (.tmp 4) (.tmp 60) rfl (w.heap.size+1) #[.string ⟨#[]⟩,.slice none 0 0,.slice none 0 0] rfl rfl 24 #[.string ⟨#[]⟩,.slice none 0 0,.slice none 0 0] HBR.out HI.out rfl A0.out ?_);refine bodyPost_ret (by simp[results,Tryz.results26,go_sem,z0,z1,z2];try rfl) rfl ?_;exact⟨HRES.out,X6.out⟩
     ·have hn6:65535<lv:=by unfold Lab at hlv;omega
      clear hlv;go_wp2_with (refine wpList_store_row rfl 24 (.tmp 4) (.tmp 60) rfl (w.heap.size+1) #[.string ⟨#[]⟩,.slice none 0 0,.slice none 0 0] rfl rfl 24 #[.string ⟨#[]⟩,.slice none 0 0,.slice none 0 0] HBR.out HI.out rfl A0.out ?_);refine bodyPost_ret (by simp[results,Tryz.results26,go_sem,z0,z1,z2];try rfl) rfl ?_;exact⟨HRES.out,X6.out⟩
    ·have hm1n:(LZ.length:Int)≤(gN OU i:Int):=by omega
     clear hmd z3 kx ko kl BR;generalize gN OU i=o at *;go_wp2_with (refine wpList_store_row rfl 24 (.tmp 4) (.tmp 60) rfl (w.heap.size+1) #[.string ⟨#[]⟩,.slice none 0 0,.slice none 0 0] rfl rfl 24 #[.string ⟨#[]⟩,.slice none 0 0,.slice none 0 0] HBR.out HI.out rfl A0.out ?_);refine bodyPost_ret (by simp[results,Tryz.results26,go_sem,z0,z1,z2];try rfl) rfl ?_;exact⟨HRES.out,X6.out⟩
  ·as_aux_lemma=>
   have hi':¬(i:Int)<(OU.length:Int):=by omega
   obtain rfl:i=OU.length:=by omega
   have HOO:Hid (O=mpO LZ OU):=by have:=HO.out;rwa [List.take_length] at this
   obtain⟨oa2,oc2,hov,KO⟩:=FR.out.nat (i:=1) (by simp) rfl;subst hov;obtain⟨xa2,xc2,hxv,KX⟩:=FR.out.nat (i:=0) (by simp) rfl;simp only[Value.slice.injEq] at hxv;obtain⟨e1,-,e3⟩:=hxv;subst e1 e3;obtain⟨d0,-⟩:=FR.out.slot (i:=2) (by simp) rfl (k:=0) (by simp);obtain⟨d1,-⟩:=FR.out.slot (i:=2) (by simp) rfl (k:=1) (by simp);obtain⟨d2,-⟩:=FR.out.slot (i:=2) (by simp) rfl (k:=2) (by simp);simp only[List.getElem_cons_succ,List.getElem_cons_zero] at d0 d1 d2;have hM2:qbv bs NX O:=by rw[HOO.out];exact qhw HMM.out HMP.out
   have HOL:Hid (O.length=OU.length):=by unfold Hid;rw[HOO.out,qcp]
   have hMZ:qcr bs (zN NX) (zN O):=by rw[HOO.out];exact qkj HMM.out HRT.out HMP.out
   have HMZ:=qaa hMZ;have HLD:=qaa (qdi bs xa oa2 xc oc2 (zN NX) (zN O) wr (by rw[qal];omega) (by rw[qal];have:=HOL.out;omega) KX.raw KO.raw);unfold auV at HLD;rw[qal,qal] at HLD;have XW:=qaa FR.out.bel;have X2W:=qaa (bt X3.out XW.out (Nat.le_refl _));have hlw:w.heap.size+1<wr.heap.size:=Nat.lt_of_lt_of_le HNW.out XW.out.size;clear FR KX KO hMZ kx ko kl BR HO;go_wp2_with (fail);refine HLD.out.mono ?_;rintro e w7 ⟨hP,x7⟩;have hO:qhb bs NX O wr.heap.size e w7:=by
    rcases hP with⟨hno,_⟩|⟨NX',OU',e1,e2,hM,_,hO⟩
    ·exact absurd HMZ.out hno
    ·obtain rfl:=qa2 e1
     obtain rfl:=qa2 e2;exact hO
   clear hP;obtain⟨bs',ya,yn,yc,za,zn,zc,m,rfl⟩:=hO.shape;have X7:=qaa (bt X2W.out x7 (Nat.le_refl _));have B7:=(HC.out w7 X7.out).2.2.2.1;have A4:Hid ((#[.string ⟨bs'.toArray⟩,.slice ya yn yc,.slice za zn zc]:Array Value).all (·.oneCell')=true):=by unfold Hid;simp[Value.oneCell']
   have HB7:=qaa B7;have B8:=setRow_heap w7 (w.heap.size+1) _ #[.string ⟨bs'.toArray⟩,.slice ya yn yc,.slice za zn zc] 24 (0,0) B7;have k8:Kept (fun k=>k=w.heap.size+1) w7 (w7.setRow (w.heap.size+1) #[.string ⟨bs'.toArray⟩,.slice ya yn yc,.slice za zn zc]):=qas;have x8:=bt HX2.out X7.out (Nat.le_refl _);have X8:=qaa (x8.trans (k8.below x8.size (fun b hb=>by omega)));have HP8:=qaa (hO.kept k8 hlw (show w.heap.size≤wr.heap.size by omega));have HPF:Hid (MpQ bs NX OU LZ w.heap.size (.returned (.tuple #[.agg #[.string ⟨bs'.toArray⟩,.slice ya yn yc,.slice za zn zc],.int .i64 m])) (w7.setRow (w.heap.size+1) #[.string ⟨bs'.toArray⟩,.slice ya yn yc,.slice za zn zc])):=by
    have h1:=HP8.out;rw[HOO.out] at h1;exact .inr ⟨HMP.out,h1⟩
   have z0:=cell_of_row _ _ 0 _ _ _ B8;have z1:=cell_of_row _ _ 1 _ _ _ B8;have z2:=cell_of_row _ _ 2 _ _ _ B8;clear B8 k8 B7 x8 x7 hO HLD HP8 c0 c1 c2 d0 d1 d2;go_wp2_with (refine wpList_store_row rfl 24 (.tmp 4) (.tmp 76) rfl (w.heap.size+1) #[.string ⟨bs'.toArray⟩,.slice ya yn yc,.slice za zn zc] rfl rfl 24 #[.string ⟨#[]⟩,.slice none 0 0,.slice none 0 0] HB7.out HI.out rfl A4.out ?_);refine bodyPost_ret (by simp[results,Tryz.results26,go_sem,z0,z1,z2];try rfl) rfl ?_;exact⟨HPF.out,X8.out⟩
theorem qmb (bs:By) (na oa la:Option Addr) (nc oc lc:Nat) (NZ OZ LZ:List Int) (w:World) (hnl:NZ.length≤140737488351232) (hol:OZ.length≤140737488351232) (hnx:ZAt w na NZ) (hou:ZAt w oa OZ) (hla:ZAt w la LZ):
 Calls Tryz.prog 26 #[auV bs na NZ.length nc oa OZ.length oc,.slice la LZ.length lc] w fun e w'=>MpP bs NZ OZ LZ w.heap.size e w'∧Below w.heap.size w w':=by
 by_cases hR:qay bs NZ OZ
 ·obtain⟨n1,NX,OU,rfl,rfl,m1,r1⟩:=hR
  rw[qal] at n1;have:=qim bs na oa la nc oc lc NX OU LZ w ⟨m1,r1,n1,hnx.nat,hou.nat⟩ hla;rw[qal,qal];refine this.mono ?_;rintro e w' ⟨h,x⟩;exact⟨.inr ⟨NX,OU,rfl,rfl,m1,r1,n1,h⟩,x⟩
 ·refine(qkk bs na oa la nc oc lc NZ OZ LZ w hnl hol hnx hou hla hR).mono ?_
  rintro e w' ⟨h,x⟩;exact⟨.inl ⟨hR,h⟩,x⟩
end Go.Proofs.YtdgoilkgplnhfaaGreat

