/-
  leastText and Shortest by their contracts: the least text of a label. Condition: lists no longer than a process can hold.
-/
import Derived.Test.YtdgoilkgplnhfaaGreatJ32
import Derived.Test.YtdgoilkgplnhfaaGreatJ17
import Derived.Test.YtdgoilkgplnhfaaGreatJ30
import Derived.Test.YtdgoilkgplnhfaaGreatJ15
import Derived.Test.YtdgoilkgplnhfaaGreatJ33
namespace Go.Proofs.YtdgoilkgplnhfaaGreat
open Go.RowKit Go.Lib
theorem qf3 {c:UInt8}:∀(l:By),(∃i,i<l.length∧l.getD i 0=c)→∃i:Nat,Lib.indexByte l c=(i:Int)∧i<l.length∧l.getD i 0=c∧∀j,j<i→l.getD j 0≠c
 |[],h=>by obtain⟨i,h,_⟩:=h;simp at h
 |b::l,h=>by
  unfold Lib.indexByte;by_cases hb:b=c
  ·subst hb
   exact⟨0,by simp,by simp,by simp,fun j hj=>by omega⟩
  ·have hb':(b==c)=false:=by simpa using hb
   have h2:∃i,i<l.length∧l.getD i 0=c:=by
    obtain⟨i,h1,h2⟩:=h;cases i with
    |zero=>simp at h2;exact absurd h2 hb
    |succ i=>exact⟨i,by simpa using h1,by simpa using h2⟩
   obtain⟨i,e,k1,k2,k3⟩:=qf3 l h2;rw[hb',e];have hne:((i:Int)== -1)=false:=by simp
   refine⟨i+1,by simp[hne],by simpa using k1,by simpa using k2,fun j hj=>?_⟩;cases j with
   |zero=>simpa using hb
   |succ j=>simpa using k3 j (by omega)
section
variable {bs:By} {NX OU:List Nat} (hM:qbv bs NX OU) (R:(dfA bs NX OU).Right)
include hM R
theorem qj3 {q at':Nat} (hq:q<OU.length) (h0:0<q) (h1:(zN NX)[at']? =some (q:Int)) (h2:∀j,j<at'→(zN NX)[j]? ≠some (q:Int)):at'<NX.length∧(dfA bs NX OU).Met q (at'/(NX.length/OU.length)) (at'%(NX.length/OU.length)):=by
 obtain⟨p,c,hp,hc,h3,h4⟩:=R.met hq h0;have hW:0<NX.length/OU.length:=by have:c<NX.length/OU.length:=hc;omega
 have hz:∀j,j<NX.length→(zN NX)[j]? =some ((gN NX j:Nat):Int):=fun j hj=>by
  unfold zN;rw[List.getElem?_map,List.getElem?_eq_getElem hj,qah hj];rfl
 have hal:at'<NX.length:=by
  obtain⟨h,_⟩:=List.getElem?_eq_some_iff.1 h1;unfold zN at h
  rwa [List.length_map] at h
 have hpc:p*(NX.length/OU.length)+c<NX.length:=hM.at (show p<OU.length by omega) hc;have hga:gN NX at'=q:=by have:=hz at' hal;rw[h1] at this;injection this with this;omega
 have e:at'=p*(NX.length/OU.length)+c:=by
  apply Nat.le_antisymm
  ·apply Nat.le_of_not_lt
   intro hlt;refine h2 _ hlt ?_;rw[hz _ hpc];have h5:gN NX (p*(NX.length/OU.length)+c)=q:=h3;rw[h5]
  ·apply Nat.le_of_not_lt
   intro hlt;have h6:=h4 (at'/(NX.length/OU.length)) (at'%(NX.length/OU.length)) (Nat.mod_lt _ hW) (by
    unfold qgi;have e1:(NX.length/OU.length)*(at'/(NX.length/OU.length))+at'%(NX.length/OU.length)=at':=Nat.div_add_mod _ _;by_cases h7:at'/(NX.length/OU.length)<p
    ·exact .inl h7
    ·refine .inr ?_
     have h8:at'/(NX.length/OU.length)≤p:=by
      apply Nat.le_of_not_lt;intro h9;have h10:=Nat.mul_le_mul_left (NX.length/OU.length) h9;rw[Nat.mul_succ,Nat.mul_comm (NX.length/OU.length) p] at h10;have:c<NX.length/OU.length:=hc;omega
     have h9:at'/(NX.length/OU.length)=p:=by omega
     refine⟨h9,?_⟩;rw[h9,Nat.mul_comm] at e1;omega)
   have h7:gN NX ((at'/(NX.length/OU.length))*(NX.length/OU.length)+at'%(NX.length/OU.length))<q:=h6;rw[Nat.mul_comm,Nat.div_add_mod,hga] at h7;omega
 have hd:=qbt (i:=p) (show c<NX.length/OU.length from hc);rw[←e] at hd;rw[hd.1,hd.2];exact⟨hal,hp,hc,h3,h4⟩
omit R in
theorem qj4 {c:Nat} (hc:c<NX.length/OU.length) (hex:∃b,b<256∧(dfA bs NX OU).bc b=c):∃b:Nat,Lib.indexByte bs (UInt8.ofNat c)=(b:Int)∧(dfA bs NX OU).Fst c b:=by
 have hw:=hM.w1;have e2:(UInt8.ofNat c).toNat=c:=by simp;omega
 obtain⟨b0,k1,k2⟩:=hex;have k2:(bs.getD b0 0).toNat=c:=k2;obtain⟨i,e,h1,h2,h3⟩:=qf3 (c:=UInt8.ofNat c) bs ⟨b0,by rw[hM.bl];exact k1,by apply UInt8.toNat_inj.1;rw[k2,e2]⟩;refine⟨i,e,by rw[hM.bl] at h1;exact h1,?_,fun j hj hbc=>h3 j hj ?_⟩
 ·show(bs.getD i 0).toNat=c
  rw[h2,e2]
 ·apply UInt8.toNat_inj.1
  rw[e2];exact hbc
end
theorem NAt.int {w:World} {ao:Option Addr} {L:List Nat} (h:NAt w ao L):ZAt w ao (zN L):=by
 rcases h with rfl|⟨b,off,e,hb,h⟩
 ·exact .inl rfl
 ·refine .inr ⟨b,off,e,hb,fun i hi=>?_⟩
  have hi':i<L.length:=by unfold zN at hi;rwa [List.length_map] at hi
  rw[h i hi'];simp[zN]
theorem qc3 (L:List Nat) (n:Nat):qar (L++[n])=qar L++[.int .u8 (n:Int)]:=by simp[qar]
theorem qhc (w:World):Calls Tryz.prog 101 #[.slice none 0 0] w fun e w'=>e=.returned (.tuple #[])∧w'=w:=by
 go_enter Tryz.func101,Tryz.ntmps101;go_wp2;go_loopg [2,3] 2 (fun gg x y wr=>x=.int .i64 0∧y=.int .i64 (-1)∧wr=w∧0<gg)
 case atStart=>exact⟨rfl,rfl,rfl,by omega⟩
 case round=>
  obtain⟨rfl,rfl,rfl,_⟩:=hrel;go_wp2;refine bodyPost_end (v:=.tuple #[]) (results_none rfl _ _ _) rfl ?_;exact⟨rfl,rfl⟩
theorem qoq (W:World) (n:Nat) (j:Nat) (u:Value) (hu:([.int .u8 (n:Nat)]:List Value)[j]? =some u):(W.alloc (.cells #[.int .u8 (n:Nat)] 5)).cell? ((⟨W.heap.size,0,none⟩:Addr).add j)=some u:=by
 have e2:(⟨W.heap.size,0,none⟩:Addr).add j=⟨W.heap.size,j,none⟩:=by unfold Addr.add;split<;>simp_all
 rw[e2,cell_of_row _ _ _ _ _ _ (heap_alloc_new W (.cells #[.int .u8 (n:Nat)] 5))];simpa using hu
set_option maxRecDepth 100000 in
set_option maxHeartbeats 8000000 in
theorem qe8 (bs:By) (na oa:Option Addr) (nc oc s:Nat) (NX OU:List Nat) (w:World) (hM:qbv bs NX OU) (hR:(dfA bs NX OU).Right) (hs:s<OU.length) (hn:OU.length≤256) (hnx:NAt w na NX):
 Calls Tryz.prog 67 #[auV bs na NX.length nc oa OU.length oc,.int .i64 (s:Nat)] w fun e w'=>(∃t,(dfA bs NX OU).LT s t∧e=.returned (.string ⟨(qav t).toArray⟩))∧Below w.heap.size w w':=by
 obtain⟨i5,hi5,hz50,hz51,hz52⟩:=info_parts Tryz.info5n;have X1:Below w.heap.size w (w.alloc (.cells #[.string ⟨bs.toArray⟩,.slice na NX.length nc,.slice oa OU.length oc] 24)):=al (Below.refl _ _) _;have B1:=heap_alloc_new w (.cells #[.string ⟨bs.toArray⟩,.slice na NX.length nc,.slice oa OU.length oc] 24);obtain⟨w1,hw1⟩:∃w1,w1=w.alloc (.cells #[.string ⟨bs.toArray⟩,.slice na NX.length nc,.slice oa OU.length oc] 24):=⟨_,rfl⟩;rw[←hw1] at X1 B1;have hlw:=lt_of_block B1;have HC:Hid (∀V,Below w1.heap.size w1 V→V.cell? ⟨w.heap.size,0,none⟩=some (.string ⟨bs.toArray⟩)∧V.cell? ⟨w.heap.size,1,none⟩=some (.slice na NX.length nc)∧V.cell? ⟨w.heap.size,2,none⟩=some (.slice oa OU.length oc)∧NAt V na NX):=fun V x=>by
  have Bv:=(x.block _ hlw).trans B1;exact⟨by rw[cell_of_row _ _ _ _ _ _ Bv];rfl,by rw[cell_of_row _ _ _ _ _ _ Bv];rfl,by rw[cell_of_row _ _ _ _ _ _ Bv];rfl,hnx.below (bt X1 x (Nat.le_refl _))⟩
 have HX1:=qaa X1;have HMM:=qaa hM;have HRT:=qaa hR;have hNl:=hM.nxl;have HW:=fun V=>qb7 bs na oa NX.length nc OU.length oc V (by omega) hM.n0
 unfold auV at HW ⊢;have S0:Hid (∀t,(dfA bs NX OU).LT s t→(dfA bs NX OU).LT s (t++([]:List Nat).reverse)):=fun t h=>by simpa using h
 have O0:Hid (qds w1 w1.heap.size (.slice none 0 0) []):=⟨by simp[qar],.inl ⟨rfl,rfl⟩⟩;clear X1 B1 hnx hM hR;go_enter Tryz.func67,Tryz.ntmps67;go_upto_region 1 with fail
 rw[←hw1];clear hw1;go_wp2;go_loopg [1,5] (s+2) (fun g x v wr=>∃(q:Nat) (L:List Nat),x=.int .i64 (q:Nat)∧Hid (qds wr w1.heap.size v L)∧Hid (∀t,(dfA bs NX OU).LT q t→(dfA bs NX OU).LT s (t++L.reverse))∧Hid (Below w1.heap.size w1 wr)∧q<OU.length∧Hid (L.length+q≤s)∧Hid (∀x∈L,x<256)∧q<g)
 case atStart=>exact⟨s,[],rfl,O0,S0,Below.refl _ _,hs,by simp[Hid],fun x hx=>(List.not_mem_nil hx).elim,by omega⟩
 case round=>
  obtain⟨q,L,rfl,O,SF,XB,hq,HLL,HL,hg⟩:=hrel;have HG:=qaa hg;clear hg S0 O0;obtain⟨va,vc,hv,_⟩:=qag (show _root_.Go.World.ownsRow _ _ 5 1 _ L.length (qar L) from O.out);subst hv;obtain⟨c0,c1,c2,kn⟩:=HC.out wr XB.out;by_cases h0:0<q
  ·as_aux_lemma=>
   have h0':(0:Int)<(q:Int):=by omega
   have HIX:Hid (Calls Tryz.prog 66 #[.slice na NX.length nc,.int .i64 (q:Nat)] wr fun e w'=>(∃at':Nat,e=.returned (.int .i64 (at':Int))∧at'<NX.length∧(dfA bs NX OU).Met q (at'/(NX.length/OU.length)) (at'%(NX.length/OU.length)))∧w'=wr):=by
    have h1:=qd0 na nc (zN NX) (q:Int) wr (by unfold zN;rw[List.length_map];omega) kn.int;rw[show(zN NX).length=NX.length by unfold zN;rw[List.length_map]] at h1;refine h1.mono ?_;rintro e w' ⟨hI,rfl⟩;refine⟨?_,rfl⟩;rcases hI with⟨i,rfl,k1,k2⟩|⟨_,k1⟩
    ·exact⟨i,rfl,qj3 HMM.out HRT.out hq h0 k1 k2⟩
    ·obtain⟨p,c,hp,hc,h3,_⟩:=HRT.out.met hq h0
     have hpc:=HMM.out.at (show p<OU.length by omega) hc;refine absurd ?_ k1;unfold zN;refine List.mem_map.2 ⟨q,?_,rfl⟩;have h5:gN NX (p*(NX.length/OU.length)+c)=q:=h3;rw[←h5,qah hpc];exact List.getElem_mem hpc
   go_upto_region 4 with(go_at_call 66;refine HIX.out.mono ?_;rintro e w3 ⟨⟨a',rfl,hal,hmet⟩,hw3⟩;have hw3:=hw3.symm;subst hw3;have HMT:=qaa hmet;clear hmet)
   have hW0:0<NX.length/OU.length:=by have:=HMT.out.cw;have h9:a'%(NX.length/OU.length)<NX.length/OU.length:=this;omega
   have hW1:=HMM.out.w1;obtain⟨b,hb1,hfst⟩:=qj4 HMM.out HMT.out.cw (HRT.out.cols _ HMT.out.cw);have HFS:=qaa hfst;have hpq:a'/(NX.length/OU.length)<q:=HMT.out.lt;have hcw:a'%(NX.length/OU.length)<NX.length/OU.length:=HMT.out.cw;have hb2:=hfst.lt;have HSF:Hid (∀t,(dfA bs NX OU).LT (a'/(NX.length/OU.length)) t→(dfA bs NX OU).LT s (t++(L++[b]).reverse)):=fun t ht=>by
    have:=SF.out (t++[b]) (.step HMT.out HFS.out ht);simpa using this
   have hmod:(a':Int).tmod ((NX.length/OU.length:Nat):Int)=((a'%(NX.length/OU.length):Nat):Int):=by rw[Int.tmod_eq_emod_of_nonneg (by omega)];rfl
   have hdiv:(a':Int).tdiv ((NX.length/OU.length:Nat):Int)=((a'/(NX.length/OU.length):Nat):Int):=by rw[Int.tdiv_eq_ediv_of_nonneg (by omega)];rfl
   have HIB:Hid (∀V,Calls Tryz.prog 100 #[.string ⟨bs.toArray⟩,.int .u8 ((a'%(NX.length/OU.length):Nat):Int)] V fun e w'=>e=.returned (.int .i64 (b:Int))∧w'=V):=fun V=>by
    refine(qgm bs _ V).mono ?_;rintro e w' ⟨rfl,rfl⟩;refine⟨?_,rfl⟩;have e9:(((a'%(NX.length/OU.length):Nat):Int)).toNat.toUInt8=UInt8.ofNat (a'%(NX.length/OU.length)):=rfl;rw[e9,hb1]
   have HW2:=qaa HW;clear hb1 hfst HIX HW;generalize a'%(NX.length/OU.length)=c at *;generalize a'/(NX.length/OU.length)=p at *;generalize NX.length/OU.length=W at *;have wc:IntKind.u8.wrap (c:Int)=(c:Int):=by simp[IntKind.wrap,IntKind.bits,IntKind.signed];omega
   have wb:IntKind.u8.wrap (b:Int)=(b:Int):=by simp[IntKind.wrap,IntKind.bits,IntKind.signed];omega
   have wc2:IntKind.i64.wrap (c:Int)=(c:Int):=qak _ (by omega);have wp2:IntKind.i64.wrap (p:Int)=(p:Int):=qak _ (by omega);have hW0':¬(W:Int)=0:=by omega
   have hW0'':¬W=0:=by omega
   go_upto_region 5 with(go_at_call 94;refine(HW2.out _).mono ?_;rintro e w4 ⟨rfl,x4⟩;have X4:=qaa x4;clear x4)
   obtain⟨d0,d1,d2,kn4⟩:=HC.out w4 (bt XB.out X4.out (Nat.le_refl _));have X5:=qaa (al (Below.refl w4.heap.size w4) (.cells #[.int .u8 (b:Nat)] 5));have O5:=qaa (own_below (own_below (show wr.ownsRow w1.heap.size 5 1 (.slice va L.length vc) L.length (qar L) from O.out) X4.out) X5.out);have HS5:=qaa (Nat.le_trans (Nat.le_trans XB.out.size X4.out.size) X5.out.size);have HN5:=qaa (qoq w4 b);have hll:L.length≤256:=by have:=HLL.out;omega
   clear c0 c1 c2 kn kn4;go_upto_region 6 with(first
    |(go_at_call 100;refine(HIB.out _).mono ?_;rintro e w5 ⟨rfl,hw5⟩;have hw5:=hw5.symm;subst hw5)
    |(at_builtin;refine qac rfl (.tmp 19) (.tmp 25) 89 rfl w1.heap.size 5 i5 (.int .u8 0) 1 1 Tryz.underlying89 hi5 hz50 hz51 hz52 rfl (by decide) _ L.length (qar L) rfl O5.out ⟨w4.heap.size,0,none⟩ 1 1 [.int .u8 (b:Nat)] rfl rfl HN5.out (by simp[Value.oneCell']) (by decide) (by unfold maxLen;omega) (by omega) HS5.out ?_;intro v6 w6 g1 g2;obtain⟨F,k6,hF⟩:=qli g2;have X6:=qaa (k6.below HS5.out (fun i hf=>(World.ownsRow.lt O5.out i (hF i hf)).1));have O6:Hid (qds w6 w1.heap.size v6 (L++[b])):=(by unfold Hid qds;rw[qc3,List.length_append,List.length_singleton];exact g1);clear g1 g2 k6 hF))
   have XN:=qaa ((bt XB.out (bt X4.out X5.out (Nat.le_refl _)) (Nat.le_refl _)).trans X6.out);obtain⟨d0,d1,d2,kn4⟩:=HC.out w6 XN.out;go_wp2_with (go_at_call 94;refine(HW2.out _).mono ?_;rintro e w7 ⟨rfl,x7⟩;have X7:=qaa x7;clear x7);have O7:=qaa (own_below (show w6.ownsRow w1.heap.size 5 1 v6 (L++[b]).length (qar (L++[b])) from O6.out) X7.out);have X8:=qaa (bt XN.out X7.out (Nat.le_refl _));go_roundg (p+1)
   case measure=>have:=HG.out;omega
   case rel=>exact⟨p,L++[b],rfl,O7,HSF,X8,by omega,by have:=HLL.out;unfold Hid;rw[List.length_append,List.length_singleton];omega,fun x hx=>by
    rcases List.mem_append.1 hx with hx|hx
    ·exact HL.out x hx
    ·rw[List.mem_singleton.1 hx];exact hb2,by omega⟩
  ·as_aux_lemma=>
   have h0':¬(0:Int)<(q:Int):=by omega
   obtain rfl:q=0:=by omega
   have HLT:Hid ((dfA bs NX OU).LT s L.reverse):=by unfold Hid;have:=SF.out [] .zero;simpa using this
   have hll:L.length≤256:=by have:=HLL.out;omega
   have oo:wr.ownsRow w1.heap.size 5 1 (.slice va L.length vc) L.length (qar L):=O.out;rcases oo.2 with⟨e1,e2⟩|⟨g,cp,cur,e1,hb,hg,hnc,hcm,hcs,htake⟩
   ·injection e1 with e1 e3 e4
    subst e1 e4;have hL:L=[]:=List.length_eq_zero_iff.1 e2;subst hL;have HRN:=qaa (qhc wr);have HXW:=qaa (bt HX1.out XB.out (Nat.le_refl _));clear oo e2 e3;simp only[List.length_nil];have hcv0:(convert 89 9 (.slice none 0 0)).run Tryz.prog wr=.ok (.string ⟨#[]⟩) wr:=by rfl
    go_wp2_with (go_at_call 101;refine HRN.out.mono ?_;rintro e w3 ⟨rfl,hw3⟩;have hw3:=hw3.symm;subst hw3);go_ret;exact⟨⟨[],HLT.out,rfl⟩,HXW.out⟩
   ·injection e1 with e1 e3 e4
    subst e1;have HRV:=qaa (qgz w1.heap.size g vc L wr (by omega) O.out);have hlg:w1.heap.size≤g:=hb;clear oo e3 e4 htake hcs hcm hnc hg cur;go_upto_region 8 with(go_at_call 101;refine HRV.out.mono ?_;rintro e w3 ⟨rfl,o3,k3⟩;have O3:=qaa o3;have X3:=qaa (XB.out.trans (k3.below XB.out.size (fun i hi=>by omega)));clear o3 k3)
    have hcv:(convert 89 9 (.slice (some ⟨g,0,none⟩) L.length vc)).run Tryz.prog w3=.ok (.string ⟨(qav L.reverse).toArray⟩) w3:=by
     have:=run_convert_bytes_arg (P:=Tryz.prog) w3 89 5 Tryz.underlying89 Tryz.underlying5 g 0 L.length vc (L.reverse.map fun b:Nat=>(b:Int)) (by simp) (fun i hi=>by
      have hi2:i<L.reverse.length:=by simpa using hi
      rw[Nat.zero_add,(O3.out.slot' hi2).1,qah hi2];simp[List.getD_eq_getElem?_getD,hi]) 9 Tryz.underlying9
     rw[this];have HE:strOfNums (L.reverse.map fun b:Nat=>(b:Int))=⟨(qav L.reverse).toArray⟩:=by
      unfold strOfNums qav;rw[List.map_map];rfl
     rw[HE]
    have HXW:=qaa (bt HX1.out X3.out (Nat.le_refl _));go_wp2;go_ret;exact⟨⟨L.reverse,HLT.out,rfl⟩,HXW.out⟩
def ShP (bs:By) (NZ OZ:List Int) (l:Int) (e:Ending):Prop:=
 (¬qay bs NZ OZ∧e=.returned (.tuple #[.string ⟨#[]⟩,.bool false,.int .i64 1]))∨∃NX OU,NZ=zN NX∧OZ=zN OU∧qbv bs NX OU∧(dfA bs NX OU).Right∧OU.length≤256∧
   ((∃st t,st<OU.length∧(dfA bs NX OU).ou st=l∧(∀j,j<st→(dfA bs NX OU).ou j≠l)∧(dfA bs NX OU).LT st t∧e=.returned (.tuple #[.string ⟨(qav t).toArray⟩,.bool true,.int .i64 0]))∨((∀j,j<OU.length→(dfA bs NX OU).ou j≠l)∧e=.returned (.tuple #[.string ⟨#[]⟩,.bool false,.int .i64 0])))
theorem qj5 {L:List Nat} {i:Nat} (h:i<L.length):(zN L)[i]? =some ((gN L i:Nat):Int):=by
 unfold zN;rw[List.getElem?_map,List.getElem?_eq_getElem h,qah h];rfl
set_option maxRecDepth 100000 in
set_option maxHeartbeats 4000000 in
theorem qf4 (bs:By) (na oa:Option Addr) (nc oc:Nat) (NZ OZ:List Int) (l:Int) (w:World) (hnl:NZ.length≤140737488351232) (hol:OZ.length≤140737488351232) (hnx:ZAt w na NZ) (hou:ZAt w oa OZ):
 Calls Tryz.prog 29 #[auV bs na NZ.length nc oa OZ.length oc,.int .i64 l] w fun e w'=>ShP bs NZ OZ l e∧Below w.heap.size w w':=by
 have X1:Below w.heap.size w (w.alloc (.cells #[.string ⟨bs.toArray⟩,.slice na NZ.length nc,.slice oa OZ.length oc] 24)):=al (Below.refl _ _) _;have B1:=heap_alloc_new w (.cells #[.string ⟨bs.toArray⟩,.slice na NZ.length nc,.slice oa OZ.length oc] 24);obtain⟨w1,hw1⟩:∃w1,w1=w.alloc (.cells #[.string ⟨bs.toArray⟩,.slice na NZ.length nc,.slice oa OZ.length oc] 24):=⟨_,rfl⟩;rw[←hw1] at X1 B1;have hlw:=lt_of_block B1;have HC:Hid (∀V,Below w1.heap.size w1 V→V.cell? ⟨w.heap.size,0,none⟩=some (.string ⟨bs.toArray⟩)∧V.cell? ⟨w.heap.size,1,none⟩=some (.slice na NZ.length nc)∧V.cell? ⟨w.heap.size,2,none⟩=some (.slice oa OZ.length oc)∧ZAt V na NZ∧ZAt V oa OZ):=fun V x=>by
  have Bv:=(x.block _ hlw).trans B1;exact⟨by rw[cell_of_row _ _ _ _ _ _ Bv];rfl,by rw[cell_of_row _ _ _ _ _ _ Bv];rfl,by rw[cell_of_row _ _ _ _ _ _ Bv];rfl,hnx.below (bt X1 x (Nat.le_refl _)),hou.below (bt X1 x (Nat.le_refl _))⟩
 have HX1:=qaa X1;obtain⟨c0,c1,c2,kx,ko⟩:=HC.out w1 (Below.refl _ _);have HR:=qaa (qby bs na oa nc oc NZ OZ w1 hnl hol kx ko);clear X1 B1 hnx hou kx ko;unfold auV at HR ⊢;go_enter Tryz.func29,Tryz.ntmps29;go_upto_region 1 with fail
 rw[←hw1];clear hw1;go_wp2_with (fail);refine HR.out.mono ?_;rintro e w3 ⟨⟨b,rfl,hb⟩,x3⟩;have HBB:=qaa hb;have X3:=qaa x3;clear HR c0 c1 c2 hb x3;obtain⟨c0,c1,c2,kx,ko⟩:=HC.out w3 X3.out;cases b with
 |false=>
  have HN:Hid (¬qay bs NZ OZ):=fun h=>by have:=HBB.out.2 h;cases this
  have Xf:=qaa (bt HX1.out X3.out (Nat.le_refl _));go_wp2;go_ret3;exact⟨.inl ⟨HN.out,rfl⟩,Xf.out⟩
 |true=>
  as_aux_lemma=>
   obtain⟨h256,NX,OU,rfl,rfl,hM,hRt⟩:=HBB.out.1 rfl;have ln:(zN NX).length=NX.length:=by unfold zN;rw[List.length_map]
   have lo:(zN OU).length=OU.length:=by unfold zN;rw[List.length_map]
   have HLN:=qaa ln;have HLO:=qaa lo;have HMM:=qaa hM;have HRT:=qaa hRt;have H256:Hid (OU.length≤256):=by unfold Hid;rw[←lo];exact h256
   have HIX:=qaa (qd0 oa oc (zN OU) l w3 hol ko);have HLT:=fun(st:Nat) (hs:st<OU.length)=>qe8 bs na oa nc oc st NX OU w3 hM hRt hs H256.out kx.nat
   have Xf:=qaa (bt HX1.out X3.out (Nat.le_refl _));unfold auV at HLT;rw[←ln,←lo] at HLT;have HLT:=qaa HLT;clear ln lo hM hRt h256 HBB kx ko;go_upto_region 4 with(go_at_call 66;refine HIX.out.mono ?_;rintro e w4 ⟨hI,hw4⟩;have hw4:=hw4.symm;subst hw4;obtain⟨i,rfl⟩:(∃i:Int,e=.returned (.int .i64 i)):=(by rcases hI with⟨i,rfl,_⟩|⟨rfl,_⟩<;>exact⟨_,rfl⟩);have HI:=qaa hI;clear hI)
   rcases HI.out with⟨st,e,h1,h2⟩|⟨e,h1⟩
   ·injection e with e
    injection e with _ e
    subst e;obtain⟨hs,_⟩:=List.getElem?_eq_some_iff.1 h1;have hs:st<OU.length:=by rw[←HLO.out];exact hs
    have h0:¬(st:Int)<0:=by omega
    have HL1:=qaa (HLT.out st (by rw[HLO.out];exact hs));have HO1:Hid ((dfA bs NX OU).ou st=l):=by
     unfold Hid;rw[qj5 hs] at h1;injection h1
    have HO2:Hid (∀j,j<st→(dfA bs NX OU).ou j≠l):=fun j hj he=>h2 j hj (by rw[qj5 (by omega)];exact congrArg some he)
    clear h1 h2 HIX HI HLT;go_wp2_with (fail);refine HL1.out.mono ?_;rintro e w5 ⟨⟨t,ht,rfl⟩,x5⟩;have HT:=qaa ht;have X5:=qaa (bt Xf.out x5 (Nat.le_refl _));clear x5 ht HL1;go_wp2;go_ret3;exact⟨.inr ⟨NX,OU,rfl,rfl,HMM.out,HRT.out,H256.out,.inl ⟨st,t,hs,HO1.out,HO2.out,HT.out,rfl⟩⟩,X5.out⟩
   ·injection e with e
    injection e with _ e
    subst e;have HNO:Hid (∀j,j<OU.length→(dfA bs NX OU).ou j≠l):=fun j hj he=>h1 (by
     have h9:=qj5 hj;have h8:((gN OU j:Nat):Int)=l:=he;rw[h8] at h9;exact List.mem_of_getElem? h9)
    go_wp2;go_ret3;exact⟨.inr ⟨NX,OU,rfl,rfl,HMM.out,HRT.out,H256.out,.inr ⟨HNO.out,rfl⟩⟩,Xf.out⟩
def pA:Pc:=⟨1,97,false,[]⟩
def m0:Nat→Bool:=upd (fun _=>false) 0
def m1:Nat→Bool:=upd (fun _=>false) 1
def m2:Nat→Bool:=fun _=>false
theorem tkA (c:UInt8):tkB pA ((c.toNat:Nat):Int)=decide (c=97):=by
 apply Bool.eq_iff_iff.2;rw[decide_eq_true_iff];have e:tkB pA ((c.toNat:Nat):Int)=true↔((c.toNat:Nat):Int)=97:=by
  simp[tkB,pA];exact decide_eq_true_iff
 rw[e];constructor
 ·intro h
  have h:c.toNat=97:=by omega
  exact UInt8.toNat_inj.1 (by rw[h];rfl)
 ·rintro rfl
  rfl
theorem clA (f:Nat→Bool):clF [pA] f 1=f:=by
 unfold clF clF;have:qa8 (([pA]:List Pc).getD 0 ⟨0,0,false,[]⟩).kind=false:=rfl;rw[this,Bool.and_false];rfl
theorem stA (f:Nat→Bool) (c:UInt8):stF [pA] f c=if f 0&&decide (c=97) then m1 else m2:=by
 unfold stF;rw[show([pA]:List Pc).length=1 from rfl,clA];unfold afF afF;have e1:([pA]:List Pc).getD 0 ⟨0,0,false,[]⟩=pA:=rfl;rw[e1,tkA];rfl
theorem mtA0:mtF [pA] []=m0:=by
 unfold mtF;exact clA _
def dA:DF:=⟨3,2,fun b=>if b=97 then 1 else 0,fun s c=>if s=0∧c=1 then 2 else 1,fun s=>if s=2 then 1 else 0⟩
theorem qpm (t:By):(dA.run 0 (ntL t)=0∧mtF [pA] t=m0∧t=[])∨(dA.run 0 (ntL t)=2∧mtF [pA] t=m1∧t=[97])∨(dA.run 0 (ntL t)=1∧mtF [pA] t=m2∧t≠[]∧t≠[97]):=by
 have key:∀(n:Nat) (t:By),t.length=n→(dA.run 0 (ntL t)=0∧mtF [pA] t=m0∧t=[])∨(dA.run 0 (ntL t)=2∧mtF [pA] t=m1∧t=[97])∨(dA.run 0 (ntL t)=1∧mtF [pA] t=m2∧t≠[]∧t≠[97]):=by
  intro n
  induction n with
  |zero=>
   intro t ht;obtain rfl:t=[]:=List.length_eq_zero_iff.1 ht;exact .inl ⟨rfl,mtA0,rfl⟩
  |succ n ih=>
   intro t ht;obtain⟨v,c,rfl⟩:∃v c,t=v++[c]:=⟨t.dropLast,t.getLast (by intro e;subst e;simp at ht),(List.dropLast_concat_getLast _).symm⟩;have e1:ntL (v++[c])=ntL v++[c.toNat]:=by simp[ntL]
   have h97:(c.toNat=97)↔c=97:=⟨fun h=>UInt8.toNat_inj.1 (by rw[h];rfl),fun h=>by rw[h];rfl⟩;rw[e1,DF.run_snoc,qho,stA];rcases ih v (by simpa using ht) with⟨h1,h2,h3⟩|⟨h1,h2,h3⟩|⟨h1,h2,h3⟩
   ·subst h3
    rw[h1,h2];by_cases hc:c=97
    ·subst hc
     exact .inr (.inl ⟨rfl,rfl,rfl⟩)
    ·refine .inr (.inr ⟨?_,?_,by simp,by simpa using hc⟩)
     ·show dA.nx 0 (dA.bc c.toNat)=1
      have:dA.bc c.toNat=0:=if_neg (fun h=>hc (h97.1 h));rw[this];rfl
     ·rw[show decide (c=97)=false by simpa using hc,Bool.and_false]
      rfl
   ·rw[h1,h2,h3]
    refine .inr (.inr ⟨?_,?_,by simp,by simp⟩)
    ·exact if_neg (t:=2) (e:=1) (show ¬((2:Nat)=0∧dA.bc c.toNat=1) from fun h=>absurd h.1 (by decide))
    ·rw[show m1 0=false from rfl,Bool.false_and]
     rfl
   ·rw[h1,h2]
    refine .inr (.inr ⟨?_,?_,by simp,fun e=>?_⟩)
    ·exact if_neg (t:=2) (e:=1) (show ¬((1:Nat)=0∧dA.bc c.toNat=1) from fun h=>absurd h.1 (by decide))
    ·rw[show m2 0=false from rfl,Bool.false_and]
     rfl
    ·cases v with
     |nil=>exact h3.1 rfl
     |cons a v=>simp at e
 exact key _ t rfl
theorem labA (t:By):dA.lab 0 (ntL t)=if mtF [pA] t 1 then 1 else 0:=by
 unfold DF.lab;rcases qpm t with⟨h1,h2,_⟩|⟨h1,h2,_⟩|⟨h1,h2,_⟩<;>rw[h1,h2]<;>rfl
theorem fewA:qlq [pA]:=by
 refine⟨[plL m0,plL m1,plL m2],by simp,fun t=>?_⟩;rcases qpm t with⟨_,h2,_⟩|⟨_,h2,_⟩|⟨_,h2,_⟩
 ·exact⟨0,by simp,by rw[h2];rfl⟩
 ·exact⟨1,by simp,by rw[h2];rfl⟩
 ·exact⟨2,by simp,by rw[h2];rfl⟩
theorem rtA:Rt [pA]:=⟨by simp,fun p hp=>by rw[List.mem_singleton.1 hp];exact .inl ⟨rfl,by decide,by decide,by decide,by decide⟩,fun i hi=>by simp at hi⟩
theorem qnn:dA.Right:=by
 have hbc:∀b,dA.bc b=0∨(b=97∧dA.bc b=1):=fun b=>by
  by_cases h:b=97
  ·exact .inr ⟨h,if_pos h⟩
  ·exact .inl (if_neg h)
 have hnx:∀s c,dA.nx s c=1∨(s=0∧c=1∧dA.nx s c=2):=fun s c=>by
  by_cases h:s=0∧c=1
  ·exact .inr ⟨h.1,h.2,if_pos h⟩
  ·exact .inl (if_neg h)
 refine⟨⟨by decide,by decide,fun b _=>?_,fun s _ c _=>?_⟩,fun s hs=>?_,fun s hs t ht h=>?_,fun c hc d hd h=>?_,fun b hb v hv=>?_,fun c hc=>?_,fun s hs c hc v h0 hv=>?_⟩
 ·show dA.bc b<2
  rcases hbc b with h|h<;>omega
 ·show dA.nx s c<3
  rcases hnx s c with h|h<;>omega
 ·have hs:s<3:=hs
  have:s=0∨s=1∨s=2:=by omega
  rcases this with rfl|rfl|rfl
  ·exact⟨[],Txt.nil,rfl⟩
  ·exact⟨[0],fun b hb=>by rw[List.mem_singleton.1 hb];decide,rfl⟩
  ·exact⟨[97],fun b hb=>by rw[List.mem_singleton.1 hb];decide,rfl⟩
 ·have hs:s<3:=hs
  have ht:t<3:=ht;have l0:=h [] Txt.nil;have l1:=h [97] (fun b hb=>by rw[List.mem_singleton.1 hb];decide);have e1:s=0∨s=1∨s=2:=by omega
  have e2:t=0∨t=1∨t=2:=by omega
  rcases e1 with rfl|rfl|rfl<;>rcases e2 with rfl|rfl|rfl<;>first|rfl|(exact absurd l0 (by decide))|(exact absurd l1 (by decide))
 ·have hc:c<2:=hc
  have hd:d<2:=hd;have h0:=h 0 (by decide);rcases hnx 0 c with h1|h1<;>rcases hnx 0 d with h2|h2
  ·have:c≠1:=fun e=>by subst e;exact absurd h1 (by decide)
   have:d≠1:=fun e=>by subst e;exact absurd h2 (by decide)
   omega
  ·omega
  ·omega
  ·omega
 ·rcases hbc b with h|h
  ·omega
  ·exact⟨0,by omega,by rw[h.2] at hv;have:v=0:=by omega
                       subst this;rfl⟩
 ·have hc:c<2:=hc
  have:c=0∨c=1:=by omega
  rcases this with rfl|rfl
  ·exact⟨0,by decide,rfl⟩
  ·exact⟨97,by decide,rfl⟩
 ·rcases hnx s c with h|h
  ·omega
  ·have:v=1:=by omega
   subst this;exact⟨0,0,by decide,.inr ⟨h.1.symm,by omega⟩,rfl⟩
theorem qpn {bs:By} {NX OU:List Nat} (hM:qbv bs NX OU) (hR:(dfA bs NX OU).Right) (hl:∀t:By,(dfA bs NX OU).lab 0 (ntL t)=if mtF [pA] t 1 then 1 else 0):OU.length=3∧NX.length=6:=by
 obtain⟨h1,h2,_⟩:=qfg hR qnn (fun t ht=>by
  have e:=qjw ht;rw[←e,hl,labA])
 have h1:OU.length=3:=h1;have h2:NX.length/OU.length=2:=h2;refine⟨h1,?_⟩;have:=hM.wl;rw[h2,h1] at this;omega
theorem qor {bs:By} {NX OU:List Nat} (hl:∀t:By,(dfA bs NX OU).lab 0 (ntL t)=if mtF [pA] t 1 then 1 else 0) {st:Nat} {t:List Nat} (h1:(dfA bs NX OU).ou st=1) (ht:(dfA bs NX OU).LT st t):qav t=[97]:=by
 obtain⟨k1,k2⟩:=ht.run;have h3:=hl (qav t);rw[qjw k1] at h3;unfold DF.lab at h3;rw[k2,h1] at h3;rcases qpm (qav t) with⟨_,e,_⟩|⟨_,_,e⟩|⟨_,e,_⟩
 ·rw[e] at h3;exact absurd h3 (by decide)
 ·exact e
 ·rw[e] at h3;exact absurd h3 (by decide)
structure AtA (w:World) (bs:By) (xa oa:Option Addr) (NX OU:List Nat):Prop where
 may:qbv bs NX OU
 rt:(dfA bs NX OU).Right
 n:OU.length≤256
 nx:NAt w xa NX
 ou:NAt w oa OU
section
variable {w w':World} {bs:By} {xa oa:Option Addr} {NX OU:List Nat}
theorem AtA.below (h:AtA w bs xa oa NX OU) (x:Below w.heap.size w w'):AtA w' bs xa oa NX OU:=⟨h.may,h.rt,h.n,h.nx.below x,h.ou.below x⟩
theorem qal (L:List Nat):(zN L).length=L.length:=by unfold zN;rw[List.length_map]
theorem AtA.rz (h:AtA w bs xa oa NX OU):qay bs (zN NX) (zN OU):=⟨by rw[qal];exact h.n,NX,OU,rfl,rfl,h.may,h.rt⟩
theorem AtA.run (h:AtA w bs xa oa NX OU) (xc oc:Nat) (t:By) (ht:t.length≤140737488351232):Calls Tryz.prog 27 #[.agg #[.string ⟨bs.toArray⟩,.slice xa NX.length xc,.slice oa OU.length oc],.string ⟨t.toArray⟩] w fun e w'=>e=.returned (.tuple #[.int .i64 ((dfA bs NX OU).lab 0 (ntL t)),.int .i64 0])∧Below w.heap.size w w':=by
 have h1:=h.may.nxl;have h2:=h.n;have:=qnm bs xa oa xc oc (zN NX) (zN OU) t w (by rw[qal];omega) (by rw[qal];omega) ht h.nx.int h.ou.int;rw[qal,qal] at this;refine this.mono ?_;rintro e w' ⟨hP,x⟩;refine⟨?_,x⟩;rcases hP with⟨hn,_⟩|⟨NX2,OU2,e1,e2,_,_,_,rfl⟩
 ·exact absurd h.rz hn
 ·rw[qa2 e1,qa2 e2]
theorem AtA.right (h:AtA w bs xa oa NX OU) (xc oc:Nat):Calls Tryz.prog 16 #[.agg #[.string ⟨bs.toArray⟩,.slice xa NX.length xc,.slice oa OU.length oc]] w fun e w'=>e=.returned (.bool true)∧Below w.heap.size w w':=by
 have h1:=h.may.nxl;have h2:=h.n;have:=qby bs xa oa xc oc (zN NX) (zN OU) w (by rw[qal];omega) (by rw[qal];omega) h.nx.int h.ou.int;rw[qal,qal] at this;refine this.mono ?_;rintro e w' ⟨⟨b,rfl,hb⟩,x⟩;rw[hb.2 h.rz];exact⟨rfl,x⟩
def ShR (bs:By) (NX OU:List Nat) (l:Int) (s:By) (is:Bool):Prop:=
 (is=true∧∃st t,st<OU.length∧(dfA bs NX OU).ou st=l∧(∀j,j<st→(dfA bs NX OU).ou j≠l)∧(dfA bs NX OU).LT st t∧s=qav t)∨(is=false∧s=[]∧∀j,j<OU.length→(dfA bs NX OU).ou j≠l)
theorem AtA.short (h:AtA w bs xa oa NX OU) (xc oc:Nat) (l:Int):Calls Tryz.prog 29 #[.agg #[.string ⟨bs.toArray⟩,.slice xa NX.length xc,.slice oa OU.length oc],.int .i64 l] w fun e w'=>(∃s is,e=.returned (.tuple #[.string ⟨s.toArray⟩,.bool is,.int .i64 0])∧ShR bs NX OU l s is)∧Below w.heap.size w w':=by
 have h1:=h.may.nxl;have h2:=h.n;have:=qf4 bs xa oa xc oc (zN NX) (zN OU) l w (by rw[qal];omega) (by rw[qal];omega) h.nx.int h.ou.int;rw[qal,qal] at this;refine this.mono ?_;rintro e w' ⟨hP,x⟩;refine⟨?_,x⟩;rcases hP with⟨hn,_⟩|⟨NX2,OU2,e1,e2,_,_,_,hS⟩
 ·exact absurd h.rz hn
 ·obtain rfl:=qa2 e1
  obtain rfl:=qa2 e2;rcases hS with⟨st,t,k1,k2,k3,k4,rfl⟩|⟨k1,rfl⟩
  ·exact⟨_,_,rfl,.inl ⟨rfl,st,t,k1,k2,k3,k4,rfl⟩⟩
  ·exact⟨[],_,rfl,.inr ⟨rfl,rfl,k1⟩⟩
end
structure OfR (w:World) (base:Nat) (L:List Pc) (bs:By) (xa oa:Option Addr) (xc oc:Nat) (NX OU:List Nat):Prop where
 at':AtA w bs xa oa NX OU
 rws:Rws w base [(.slice xa NX.length xc,NX),(.slice oa OU.length oc,OU)]
 lab:∀t:By,(dfA bs NX OU).lab 0 (ntL t)=if mtF L t L.length then 1 else 0
theorem OfP.yes {L:List Pc} {base:Nat} {e:Ending} {w:World} (h:OfP L base e w) (hR:Rt L):(qhr L∧e=.returned (.tuple #[.agg #[.string ⟨#[]⟩,.slice none 0 0,.slice none 0 0],.int .i64 2]))∨∃bs xa oa xc oc NX OU,e=.returned (.tuple #[.agg #[.string ⟨bs.toArray⟩,.slice xa NX.length xc,.slice oa OU.length oc],.int .i64 0])∧OfR w base L bs xa oa xc oc NX OU:=by
 rcases h with⟨hn,_⟩|⟨_,hm,e⟩|⟨_,_,bs',xa,xn,xc,oa,on,oc,NX,OU,rfl,h1,h2,h3,h4,h5⟩
 ·exact absurd hR hn
 ·exact .inl ⟨hm,e⟩
 ·obtain rfl:xn=NX.length:=h1.shape (j:=0) (by simp) rfl
  obtain rfl:on=OU.length:=h1.shape (j:=1) (by simp) rfl;exact .inr ⟨bs',xa,oa,xc,oc,NX,OU,rfl,⟨⟨h2,h3,h4,qan.nat (h1.own 0 (by simp)),qan.nat (h1.own 1 (by simp))⟩,h1,h5⟩⟩
end Go.Proofs.YtdgoilkgplnhfaaGreat

