/-
  The document's product by its contract: columns numbered by first occurrence, pairs of states as they are met. Conditions: two automata in their one form.
-/
import Derived.Test.YtdgoilkgplnhfaaGreatJ42
import Derived.Test.YtdgoilkgplnhfaaGreatJ35
import Derived.Test.YtdgoilkgplnhfaaGreatJ19
import Derived.Test.YtdgoilkgplnhfaaGreatJ43
import Derived.Test.YtdgoilkgplnhfaaGreatJ34
namespace Go.Proofs.YtdgoilkgplnhfaaGreat
open Go.RowKit Go.Lib
def pcP (bsA bsB:By) (b:Nat):Nat×Nat:=((bsA.getD b 0).toNat,(bsB.getD b 0).toNat)
def spP (L:List (Nat×Nat)):List Spn:=L.map fun p=>((p.1:Int),(p.2:Int))
theorem qbe (L:List (Nat×Nat)):(spP L).length=L.length:=by simp[spP]
theorem qd9 {L:List (Nat×Nat)} {i:Nat} (h:i<L.length):gQ (spP L) i=(((gS (0,0) L i).1:Int),((gS (0,0) L i).2:Int)):=by
 rw[qch (by rw[qbe];exact h),qb2 h];simp[spP]
theorem qmm {α:Type} {z:α} {f:Nat→α} {L:List Nat} {j:Nat} (h:j<L.length):gS z (L.map f) j=f (gN L j):=by
 rw[qb2 (by rw[List.length_map];exact h),qah h,List.getElem_map]
theorem qdj {bs:By} {NX OU:List Nat} (h:qbv bs NX OU) (hr:(dfA bs NX OU).Right):NX.length/OU.length=mxL (ntL bs)+1:=by
 obtain⟨-,-,-,m3,-⟩:=qdv h hr;rw[qal,qal] at m3;rw[m3,Nat.mul_div_cancel_left _ h.n0]
theorem qhv (L:List (Nat×Nat)) (p:Nat×Nat):spP (L++[p])=spP L++[((p.1:Int),(p.2:Int))]:=by simp[spP]
def PrP (bsA bsB:By) (NA OA NB OB:List Nat) (base:Nat) (e:Ending) (w:World):Prop:=
 ∃(num fst X:List Nat) (St:List (Nat×Nat)) (xa la:Option Addr) (xc lc:Nat),e=.returned (.tuple #[.agg #[.string ⟨(qav num).toArray⟩,.slice xa X.length xc,.slice none 0 0],.slice la St.length lc])∧num.length=256∧qbf (fun b=>cdP (pcP bsA bsB b)) 256 (gN num) (gN fst) fst.length∧ExD (0,0) (joC (dfA bsA NA OA) (dfA bsB NB OB) fst) fst.length St X∧(∀p∈St,p.1<OA.length∧p.2<OB.length)∧qan w base (.slice xa X.length xc) X∧qa3 w base (.slice la St.length lc) (spP St)
set_option maxRecDepth 100000 in
set_option maxHeartbeats 16000000 in
theorem qf7 (bsA bsB:By) (xA oA xB oB:Option Addr) (xAc oAc xBc oBc:Nat) (NA OA NB OB:List Nat) (w:World) (hA:AtA w bsA xA oA NA OA) (hB:AtA w bsB xB oB NB OB):
 Calls Tryz.prog 62 #[auV bsA xA NA.length xAc oA OA.length oAc,auV bsB xB NB.length xBc oB OB.length oBc] w fun e w'=>PrP bsA bsB NA OA NB OB w.heap.size e w'∧Below w.heap.size w w':=by
 obtain⟨w2,hw2⟩:∃w2,w2=(w.alloc (.cells #[.string ⟨bsA.toArray⟩,.slice xA NA.length xAc,.slice oA OA.length oAc] 24)).alloc (.cells #[.string ⟨bsB.toArray⟩,.slice xB NB.length xBc,.slice oB OB.length oBc] 24):=⟨_,rfl⟩;obtain⟨X2,B1,B2,hs2⟩:=qap w #[.string ⟨bsA.toArray⟩,.slice xA NA.length xAc,.slice oA OA.length oAc] #[.string ⟨bsB.toArray⟩,.slice xB NB.length xBc,.slice oB OB.length oBc] 24 24;rw[←hw2] at X2 B1 B2 hs2;have X3:Below w2.heap.size w2 (w2.alloc (.cells #[.string ⟨#[]⟩,.slice none 0 0,.slice none 0 0] 24)):=al (Below.refl _ _) _;have B3:=heap_alloc_new w2 (.cells #[.string ⟨#[]⟩,.slice none 0 0,.slice none 0 0] 24);rw[hs2] at B3;obtain⟨w3,hw3⟩:∃w3,w3=w2.alloc (.cells #[.string ⟨#[]⟩,.slice none 0 0,.slice none 0 0] 24):=⟨_,rfl⟩;rw[←hw3] at X3 B3;have X03:=bt X2 X3 (Nat.le_refl _);have HC:Hid (∀V,Below w3.heap.size w3 V→(V.cell? ⟨w.heap.size,0,none⟩=some (.string ⟨bsA.toArray⟩)∧V.cell? ⟨w.heap.size,1,none⟩=some (.slice xA NA.length xAc)∧V.cell? ⟨w.heap.size,2,none⟩=some (.slice oA OA.length oAc))∧(V.cell? ⟨w.heap.size+1,0,none⟩=some (.string ⟨bsB.toArray⟩)∧V.cell? ⟨w.heap.size+1,1,none⟩=some (.slice xB NB.length xBc)∧V.cell? ⟨w.heap.size+1,2,none⟩=some (.slice oB OB.length oBc))∧V.heap[w.heap.size+2]? =some (.cells #[.string ⟨#[]⟩,.slice none 0 0,.slice none 0 0] 24 (0,0))∧AtA V bsA xA oA NA OA∧AtA V bsB xB oB NB OB∧w.heap.size+2<V.heap.size):=fun V x=>by
  have y:=bt X3 x (Nat.le_refl _);have Bv:=(y.block _ (lt_of_block B1)).trans B1;have Bw:=(y.block _ (lt_of_block B2)).trans B2;have Bz:=(x.block _ (lt_of_block B3)).trans B3;exact⟨⟨by rw[cell_of_row _ _ _ _ _ _ Bv];rfl,by rw[cell_of_row _ _ _ _ _ _ Bv];rfl,by rw[cell_of_row _ _ _ _ _ _ Bv];rfl⟩,⟨by rw[cell_of_row _ _ _ _ _ _ Bw];rfl,by rw[cell_of_row _ _ _ _ _ _ Bw];rfl,by rw[cell_of_row _ _ _ _ _ _ Bw];rfl⟩,Bz,hA.below (bt X03 x (Nat.le_refl _)),hB.below (bt X03 x (Nat.le_refl _)),lt_of_block Bz⟩
 have HX3:=qaa X03;have HS2:=qaa hs2;have HMA:=qaa hA.may;have HMB:=qaa hB.may;have HRA:=qaa hA.rt;have HRB:=qaa hB.rt;have hnA:=hA.n;have hnB:=hB.n;clear X2 B1 B2 hs2 X3 B3 X03 hA hB;obtain⟨⟨c0,c1,c2⟩,⟨d0,d1,d2⟩,_⟩:=HC.out w3 (Below.refl _ _);have HR1:=qaa (qb0 bsA xA oA NA.length xAc OA.length oAc w3 HMA.out.bl);obtain⟨wA,hwA⟩:∃wA,wA=mxL (ntL bsA)+1:=⟨_,rfl⟩;obtain⟨wB,hwB⟩:∃wB,wB=mxL (ntL bsB)+1:=⟨_,rfl⟩;rw[←hwA] at HR1;have HWA:=qaa hwA;have HWB:=qaa hwB;clear hwA hwB;unfold auV at HR1 ⊢;go_enter Tryz.func62,Tryz.ntmps62;go_upto_region 1 with fail
 rw[←hw2,←hw3];rw[show w.heap.size+1+1=w.heap.size+2 from rfl];clear hw2 hw3;go_upto_region 2 with(go_at_call 68;refine HR1.out.mono ?_;rintro e w4 ⟨rfl,x4⟩;have X4:=qaa x4;clear x4)
 clear HR1 c0 c1 c2 d0 d1 d2;obtain⟨⟨c0,c1,c2⟩,⟨d0,d1,d2⟩,_⟩:=HC.out w4 X4.out;have HR2:=qaa (qb0 bsB xB oB NB.length xBc OB.length oBc w4 HMB.out.bl);rw[←HWB.out] at HR2;unfold auV at HR2;go_upto_region 3 with(go_at_call 68;refine HR2.out.mono ?_;rintro e w5 ⟨rfl,x5⟩;have X5:=qaa (bt X4.out x5 (Nat.le_refl _));clear x5)
 clear HR2 c0 c1 c2 d0 d1 d2;have F5:=qaa ((Fr.start w5).box 24 [.string ⟨#[]⟩,.slice none 0 0,.slice none 0 0] (by simp[maxLen]));go_upto_region 4 with fail
 obtain⟨w6,hw6⟩:∃w6,w6=w5.alloc (.cells #[.string ⟨#[]⟩,.slice none 0 0,.slice none 0 0] 24):=⟨_,rfl⟩;obtain⟨bx,hbx⟩:∃bx,bx=w5.heap.size:=⟨_,rfl⟩;have F6:Hid (Fr w5 [(.slice none 0 0,5,qar []),(.slice (some ⟨bx,0,none⟩) 3 3,24,[.string ⟨#[]⟩,.slice none 0 0,.slice none 0 0])] w6):=by rw[hw6,hbx];exact Fr.front (F5.out.bare 5)
 rw[←hw6,←hbx];clear hw6 hbx F5;obtain⟨i3,hi3,hz30,hz31,hz32⟩:=info_parts Tryz.info3n;obtain⟨i5,hi5,hz50,hz51,hz52⟩:=info_parts Tryz.info5n;obtain⟨i48,hi48,hz480,hz481,hz482⟩:=info_parts Tryz.info48;go_upto_region 6 with(at_make;refine wpList_make_full _ rfl (.const (.int .i64 65536)) (.const (.int .i64 65536)) 22 rfl w5.heap.size 3 i3 (.int .i64 0) 1 Tryz.underlying22 hi3 hz30 hz31 .i64 .i64 _ _ 65536 rfl rfl rfl rfl (by rw[hz32];decide) (by unfold maxLen;decide) F6.out.bel.size ?_;intro w7 m1 m2;have F7:=qaa (F6.out.mkN m1 m2);clear m1 m2)
 obtain⟨gc,hgc⟩:∃gc,gc=w6.heap.size:=⟨_,rfl⟩;rw[←hgc] at F7 ⊢;clear hgc F6;have G7:Hid (FrP w5 [(.slice (some ⟨gc,0,none⟩) 65536 65536,3,qab (List.replicate 65536 0)),((.slice none 0 0),5,qar []),(.slice (some ⟨bx,0,none⟩) 3 3,24,[.string ⟨#[]⟩,.slice none 0 0,.slice none 0 0])] (.slice none 0 0) [] (.slice none 0 0) (spP (([]).map (pcP bsA bsB))) w7):=FrP.start F7.out (fun r hr=>by simp only[List.mem_cons,List.not_mem_nil,or_false] at hr;rcases hr with rfl|rfl|rfl<;>(intro h;cases h));clear F7;obtain⟨kk,hkk⟩:∃kk:Nat→Nat,kk=fun b=>cdP (pcP bsA bsB b):=⟨_,rfl⟩
 have HKK:=qaa hkk;clear hkk;have C0:Hid (CoJ kk [] [] (List.replicate 65536 0)):=CoJ.start;go_upto_region 7 with fail
 go_wp2;go_loopg [9,11,12] 257 (fun g x z y wr=>∃(num fst CT:List Nat) (ov bv:Value),ov=x∧bv=z∧y=.int .i64 (num.length:Nat)∧num.length≤256∧Hid (FrP w5 [(.slice (some ⟨gc,0,none⟩) 65536 65536,3,qab CT),(ov,5,qar num),(.slice (some ⟨bx,0,none⟩) 3 3,24,[.string ⟨#[]⟩,.slice none 0 0,.slice none 0 0])] (.slice none 0 0) [] bv (spP ((fst).map (pcP bsA bsB))) wr)∧Hid (CoJ kk num fst CT)∧256-num.length<g)
 case atStart=>exact⟨[],[],_,_,_,rfl,rfl,rfl,by simp,G7,C0,by simp⟩
 case round=>
  clear G7 C0;obtain⟨num,fst,CT,ov,bv,rfl,rfl,rfl,hi1,F,J,hg⟩:=hrel;have HG:=qaa hg;clear hg;obtain⟨⟨c0,c1,c2⟩,⟨d0,d1,d2⟩,_⟩:=HC.out wr (bt X5.out F.out.fr.bel (Nat.le_refl _));by_cases hi:num.length<256
  ·have hAl:=HMA.out.bl
   have hBl:=HMB.out.bl;have hkA:num.length<bsA.length:=by omega
   have hkB:num.length<bsB.length:=by omega
   have hlA:(num.length:Int)<(bsA.length:Int):=by omega
   have hlB:(num.length:Int)<(bsB.length:Int):=by omega
   have hi':(num.length:Int)<256:=by omega
   obtain⟨yA,hyA⟩:∃y,bsA[num.length]=y:=⟨_,rfl⟩;obtain⟨yB,hyB⟩:∃y,bsB[num.length]=y:=⟨_,rfl⟩;have hgA:∀hk,(⟨bsA.toArray⟩:ByteArray)[num.length]'hk=yA:=fun _=>hyA
   have hgB:∀hk,(⟨bsB.toArray⟩:ByteArray)[num.length]'hk=yB:=fun _=>hyB
   have hpc:pcP bsA bsB num.length=(yA.toNat,yB.toNat):=by
    unfold pcP;rw[List.getD_eq_getElem?_getD,List.getD_eq_getElem?_getD,List.getElem?_eq_getElem hkA,List.getElem?_eq_getElem hkB,hyA,hyB];rfl
   have ha:=yA.toNat_lt;have hb:=yB.toNat_lt;obtain⟨a,hya⟩:∃a,a=yA.toNat:=⟨_,rfl⟩;obtain⟨b,hyb⟩:∃b,b=yB.toNat:=⟨_,rfl⟩;rw[←hya] at ha hpc;rw[←hyb] at hb hpc;have f1:IntKind.i64.wrap ((yA.toNat:Nat):Int)=(a:Int):=by rw[←hya];exact qak _ (by omega)
   have f2:IntKind.i64.wrap ((yB.toNat:Nat):Int)=(b:Int):=by rw[←hyb];exact qak _ (by omega)
   have ha256:a<256:=ha;have hb256:b<256:=hb;obtain⟨c,hc⟩:∃c,c=a*256+b:=⟨_,rfl⟩;have hcb:c<65536:=by omega
   obtain⟨m,hm⟩:∃m:Int,m=(a:Int)*256:=⟨_,rfl⟩;have f3:IntKind.i64.wrap ((a:Int)*256)=m:=by rw[hm,show(a:Int)*256=((a*256:Nat):Int) by simp];exact qak _ (by omega)
   have f4:IntKind.i64.wrap (m+(b:Int))=(c:Int):=by rw[hm,hc,show(a:Int)*256+(b:Int)=((a*256+b:Nat):Int) by simp];exact qak _ (by omega)
   have hcI:(c:Int)<65536:=by omega
   have hkc:kk num.length=c:=by rw[HKK.out];simp only[hpc,cdP];exact hc.symm
   have HPC:=qaa hpc;have hfew:fst.length≤num.length:=J.out.few;clear hyA hyB hya hyb hpc hm hc ha hb hkA hkB hAl hBl;by_cases h0:gN CT c=0
   ·as_aux_lemma=>
    have HJ:Hid (CoJ kk (num++[fst.length]) (fst++[num.length]) (CT.set c (fst.length+1))):=by
     have:=J.out.miss (by rw[hkc];exact hcb) (by rw[hkc];exact h0)
     rwa [hkc] at this
    obtain⟨t0,t1⟩:=F.out.fr.slotN (i:=0) (by simp) rfl (k:=c) (by rw[J.out.cl];exact hcb);rw[h0] at t0;obtain⟨p1,p2,p3⟩:=F.out.pre ((a:Int),(b:Int));rw[qbe,List.length_map] at p1;have P1:=qaa p1;have P2:=qaa p2;have P3:=qaa p3;have HPU:Hid (∀v' w6,w6.ownsRow w5.heap.size 48 2 v' (fst.length+1) (qam (spP (fst.map (pcP bsA bsB)))++[.int .i64 (a:Int),.int .i64 (b:Int)])→qbb (wr.alloc (.cells #[.int .i64 (a:Int),.int .i64 (b:Int)] 48)) w6 bv v'→FrP w5 [(.slice (some ⟨gc,0,none⟩) 65536 65536,3,qab CT),(ov,5,qar num),(.slice (some ⟨bx,0,none⟩) 3 3,24,[.string ⟨#[]⟩,.slice none 0 0,.slice none 0 0])] (.slice none 0 0) [] v' (spP (((fst++[num.length])).map (pcP bsA bsB))) w6):=fun v' w6 k1 k2=>by
     rw[List.map_append,List.map_singleton,HPC.out,qhv];exact F.out.push ((a:Int),(b:Int)) (by rw[qbe,List.length_map];exact k1) k2
    have HCL:=qaa J.out.cl;clear p1 p2 p3 J F h0 hkc;go_upto_region 14 with(at_builtin;refine qac rfl (.tmp 49) (.tmp 53) 44 rfl w5.heap.size 48 i48 (.agg #[.int .i64 0,.int .i64 0]) 2 16 Tryz.underlying44 hi48 hz480 hz481 hz482 rfl (by decide) _ fst.length _ rfl P1.out ⟨wr.heap.size,0,none⟩ 1 1 [.int .i64 (a:Int),.int .i64 (b:Int)] rfl rfl P2.out (by simp[Value.oneCell']) (by decide) (by unfold maxLen;omega) (by omega) P3.out ?_;intro v6 w6 k1 k2;have F6:=qaa (HPU.out v6 w6 k1 k2);clear k1 k2)
    clear P1 P2 P3 HPU t0 t1;obtain⟨b6,cb6,e6⟩:=F6.out.shape;rw[qbe,List.length_map,List.length_append,List.length_singleton] at e6;subst e6;obtain⟨t0,t1⟩:=F6.out.fr.slotN (i:=0) (by simp) rfl (k:=c) (by rw[HCL.out];exact hcb);have F7:Hid (FrP w5 [(.slice (some ⟨gc,0,none⟩) 65536 65536,3,qab (CT.set c (fst.length+1))),(ov,5,qar num),(.slice (some ⟨bx,0,none⟩) 3 3,24,[.string ⟨#[]⟩,.slice none 0 0,.slice none 0 0])] (.slice none 0 0) [] (.slice b6 (fst.length+1) cb6) (spP ((fst++[num.length]).map (pcP bsA bsB))) (w6.setCell ⟨gc,c,none⟩ (.int .i64 ((fst.length:Int)+1)))):=by
     have:=F6.out.store (i:=0) (by simp) rfl c (.int .i64 (((fst.length+1:Nat):Nat):Int));rw[qbq] at this;exact this
    clear F6;go_upto_region 15 with fail
    clear t0 t1;generalize w6.setCell ⟨gc,c,none⟩ (.int .i64 ((fst.length:Int)+1))=w8 at *;have hq:fst.length<256:=by omega
    have HCE:Hid (gN (CT.set c (fst.length+1)) c=fst.length+1):=qd5 (by rw[HCL.out];exact hcb) _;have HCL2:Hid ((CT.set c (fst.length+1)).length=65536):=by unfold Hid;rw[List.length_set];exact HCL.out
    obtain⟨q,hqe⟩:∃q,q=fst.length:=⟨_,rfl⟩;rw[←hqe] at HCE HJ F7 HCL2 hq ⊢;clear hqe HCL;obtain⟨s0,s1⟩:=F7.out.fr.slotN (i:=0) (by simp) rfl (k:=c) (by rw[HCL2.out];exact hcb);clear s1;rw[HCE.out] at s0;have fu:IntKind.u8.wrap (q:Int)=(q:Int):=by simp[IntKind.wrap,IntKind.bits,IntKind.signed];omega
    have f5:IntKind.i64.wrap ((q:Int)+1-1)=(q:Int):=by rw[show(q:Int)+1-1=((q:Nat):Int) by omega];exact qak _ (by omega)
    have P1:Hid ((w8.alloc (.cells #[.int .u8 (q:Int)] 5)).ownsRow w5.heap.size 5 1 ov num.length (qar num)):=by
     have ho:=F7.out.fr.own (i:=1) (by simp) rfl;rw[qbh] at ho;exact own_below ho (al (Below.refl _ _) _)
    have P2:Hid (∀(j:Nat) (u:Value),[(.int .u8 (q:Int))][j]? =some u→(w8.alloc (.cells #[.int .u8 (q:Int)] 5)).cell? ((⟨w8.heap.size,0,none⟩:Addr).add j)=some u):=fun j u hu=>by
     have hB:=heap_alloc_new w8 (.cells #[.int .u8 (q:Int)] 5);rw[addr_add,cell_of_row _ _ _ _ _ _ hB];simpa using hu
    have P3:Hid (w5.heap.size≤(w8.alloc (.cells #[.int .u8 (q:Int)] 5)).heap.size):=Nat.le_trans F7.out.fr.bel.size (al (Below.refl w8.heap.size w8) (.cells #[.int .u8 (q:Int)] 5)).size;have HPU:Hid (∀v' w6,w6.ownsRow w5.heap.size 5 1 v' (num.length+1) (qar num++[.int .u8 (q:Int)])→qbb (w8.alloc (.cells #[.int .u8 (q:Int)] 5)) w6 ov v'→FrP w5 [(.slice (some ⟨gc,0,none⟩) 65536 65536,3,qab (CT.set c (q+1))),(v',5,qar (num++[q])),(.slice (some ⟨bx,0,none⟩) 3 3,24,[.string ⟨#[]⟩,.slice none 0 0,.slice none 0 0])] (.slice none 0 0) [] (.slice b6 (q+1) cb6) (spP ((fst++[num.length]).map (pcP bsA bsB))) w6):=fun v' w6 k1 k2=>by
     rw[qc3];exact F7.out.app (al (Below.refl _ _) _) (i:=1) (by simp) rfl (by rw[qbh];exact k1) k2
    go_upto_region 9 with(at_builtin;refine qac rfl (.tmp 63) (.tmp 73) 89 rfl w5.heap.size 5 i5 (.int .u8 0) 1 1 Tryz.underlying89 hi5 hz50 hz51 hz52 rfl (by decide) _ num.length _ rfl P1.out ⟨w8.heap.size,0,none⟩ 1 1 [(.int .u8 (q:Int))] rfl rfl P2.out (by simp[Value.oneCell']) (by decide) (by unfold maxLen;omega) (by omega) P3.out ?_;intro v6 w6 k1 k2;have FZ:=qaa (HPU.out v6 w6 k1 k2);clear k1 k2)
    clear P1 P2 P3 HPU s0 fu f5;go_wp2;go_roundg (256-(num.length+1)+1)
    case measure=>have:=HG.out;omega
    case rel=>exact⟨num++[q],_,_,_,_,rfl,rfl,by first|rfl|(simp;done)|(congr 1;simp),by rw[List.length_append,List.length_singleton];omega,FZ,HJ,by rw[List.length_append,List.length_singleton];omega⟩
   ·as_aux_lemma=>
    obtain⟨hq1,HJ0⟩:=J.out.hit (by rw[hkc];exact hcb) (by rw[hkc];exact h0);rw[hkc] at hq1 HJ0;obtain⟨q,hqe⟩:∃q,q=gN CT c-1:=⟨_,rfl⟩;rw[←hqe] at hq1 HJ0;have HJ:=qaa HJ0;have HCE:Hid (gN CT c=q+1):=by unfold Hid;omega
    have HCL2:Hid (CT.length=65536):=J.out.cl;have hq:q<256:=by omega
    have hne:¬(q:Int)+1=0:=by omega
    have hne2:((q:Int)+1==0)=false:=beq_eq_false_iff_ne.2 hne;clear hqe h0 hkc J HJ0;obtain⟨s0,s1⟩:=F.out.fr.slotN (i:=0) (by simp) rfl (k:=c) (by rw[HCL2.out];exact hcb);clear s1;rw[HCE.out] at s0;have fu:IntKind.u8.wrap (q:Int)=(q:Int):=by simp[IntKind.wrap,IntKind.bits,IntKind.signed];omega
    have f5:IntKind.i64.wrap ((q:Int)+1-1)=(q:Int):=by rw[show(q:Int)+1-1=((q:Nat):Int) by omega];exact qak _ (by omega)
    have P1:Hid ((wr.alloc (.cells #[.int .u8 (q:Int)] 5)).ownsRow w5.heap.size 5 1 ov num.length (qar num)):=by
     have ho:=F.out.fr.own (i:=1) (by simp) rfl;rw[qbh] at ho;exact own_below ho (al (Below.refl _ _) _)
    have P2:Hid (∀(j:Nat) (u:Value),[(.int .u8 (q:Int))][j]? =some u→(wr.alloc (.cells #[.int .u8 (q:Int)] 5)).cell? ((⟨wr.heap.size,0,none⟩:Addr).add j)=some u):=fun j u hu=>by
     have hB:=heap_alloc_new wr (.cells #[.int .u8 (q:Int)] 5);rw[addr_add,cell_of_row _ _ _ _ _ _ hB];simpa using hu
    have P3:Hid (w5.heap.size≤(wr.alloc (.cells #[.int .u8 (q:Int)] 5)).heap.size):=Nat.le_trans F.out.fr.bel.size (al (Below.refl wr.heap.size wr) (.cells #[.int .u8 (q:Int)] 5)).size;have HPU:Hid (∀v' w6,w6.ownsRow w5.heap.size 5 1 v' (num.length+1) (qar num++[.int .u8 (q:Int)])→qbb (wr.alloc (.cells #[.int .u8 (q:Int)] 5)) w6 ov v'→FrP w5 [(.slice (some ⟨gc,0,none⟩) 65536 65536,3,qab CT),(v',5,qar (num++[q])),(.slice (some ⟨bx,0,none⟩) 3 3,24,[.string ⟨#[]⟩,.slice none 0 0,.slice none 0 0])] (.slice none 0 0) [] bv (spP ((fst).map (pcP bsA bsB))) w6):=fun v' w6 k1 k2=>by
     rw[qc3];exact F.out.app (al (Below.refl _ _) _) (i:=1) (by simp) rfl (by rw[qbh];exact k1) k2
    go_upto_region 9 with(at_builtin;refine qac rfl (.tmp 63) (.tmp 73) 89 rfl w5.heap.size 5 i5 (.int .u8 0) 1 1 Tryz.underlying89 hi5 hz50 hz51 hz52 rfl (by decide) _ num.length _ rfl P1.out ⟨wr.heap.size,0,none⟩ 1 1 [(.int .u8 (q:Int))] rfl rfl P2.out (by simp[Value.oneCell']) (by decide) (by unfold maxLen;omega) (by omega) P3.out ?_;intro v6 w6 k1 k2;have FZ:=qaa (HPU.out v6 w6 k1 k2);clear k1 k2)
    clear P1 P2 P3 HPU s0 fu f5;go_wp2;go_roundg (256-(num.length+1)+1)
    case measure=>have:=HG.out;omega
    case rel=>exact⟨num++[q],_,_,_,_,rfl,rfl,by first|rfl|(simp;done)|(congr 1;simp),by rw[List.length_append,List.length_singleton];omega,FZ,HJ,by rw[List.length_append,List.length_singleton];omega⟩
  ·as_aux_lemma=>
   have hn:num.length=256:=by omega
   have hi':¬(num.length:Int)<256:=by omega
   obtain⟨ua,uc,hv⟩:=F.out.fr.shape (i:=1) (by simp) rfl;rw[qbh,hn] at hv;subst hv;obtain⟨ug,e,-,-⟩:=F.out.fr.cell (i:=1) (by simp) rfl (k:=0) (by rw[qbh,hn];decide);subst e;have hcv:(convert 89 9 (.slice (some ⟨ug,0,none⟩) 256 uc)).run Tryz.prog wr=.ok (.string (strOfNums (num.map fun b:Nat=>(b:Int)))) wr:=by
    refine run_convert_bytes_arg wr 89 5 Tryz.underlying89 Tryz.underlying5 ug 0 256 uc (num.map fun b:Nat=>(b:Int)) (by simp[hn]) (fun i hi=>?_) 9 Tryz.underlying9;rw[Nat.zero_add,(F.out.fr.slot (i:=1) (by simp) rfl (k:=i) (by rw[qbh,hn];exact hi)).1];simp[qar,List.getD_eq_getElem?_getD,show i<num.length by omega]
   have HE:Hid (strOfNums (num.map fun b:Nat=>(b:Int))=⟨(qav num).toArray⟩):=by
    unfold Hid strOfNums qav;rw[List.map_map];rfl
   rw[HE.out] at hcv;obtain⟨z0,z1⟩:=F.out.fr.slot (i:=2) (by simp) rfl (k:=0) (by simp);simp only[List.getElem_cons_zero] at z0;have S8:=F.out.store (i:=2) (by simp) rfl 0 (.string ⟨(qav num).toArray⟩);have F8:Hid (FrP w5 [(.slice none 0 0,3,qab []),(.slice (some ⟨bx,0,none⟩) 3 3,24,[.string ⟨(qav num).toArray⟩,.slice none 0 0,.slice none 0 0])] bv (spP (fst.map (pcP bsA bsB))) (.slice none 0 0) [] (wr.setCell ⟨bx,0,none⟩ (.string ⟨(qav num).toArray⟩))):=(S8.of (R':=[(.slice none 0 0,3,qab []),(.slice (some ⟨bx,0,none⟩) 3 3,24,[.string ⟨(qav num).toArray⟩,.slice none 0 0,.slice none 0 0])]) (Fr.front ((Fr.tail (Fr.tail S8.fr)).bare 3)) (fun r hr=>by simp only[List.mem_cons,List.not_mem_nil,or_false] at hr;rcases hr with rfl|rfl<;>(intro h;cases h))).swap;have HNM:=qaa hn;have HNF:Hid (qbf kk 256 (gN num) (gN fst) fst.length):=by have:=J.out.nf;rwa [hn] at this
   have hM:fst.length≤256:=by have:=J.out.few;omega
   clear S8 HE F J;go_upto_region 17 with fail
   clear hcv z0 z1 hi' c0 c1 c2 d0 d1 d2 hn;generalize wr.setCell ⟨bx,0,none⟩ (.string ⟨(qav num).toArray⟩)=w8 at *;obtain⟨bs,hbs⟩:∃bs,bs=qav num:=⟨_,rfl⟩;rw[←hbs] at F8;have HBS:=qaa hbs;clear hbs;go_upto_region 18 with(at_make;refine wpList_make_full _ rfl (.const (.int .i64 65536)) (.const (.int .i64 65536)) 22 rfl w5.heap.size 3 i3 (.int .i64 0) 1 Tryz.underlying22 hi3 hz30 hz31 .i64 .i64 _ _ 65536 rfl rfl rfl rfl (by rw[hz32];decide) (by unfold maxLen;decide) F8.out.fr.bel.size ?_;intro w9 m1 m2;have F9:=qaa (F8.out.mkN m1 m2);clear m1 m2)
   obtain⟨gt,hgt⟩:∃gt,gt=w8.heap.size:=⟨_,rfl⟩;rw[←hgt] at F9 ⊢;clear hgt F8;obtain⟨NT0,hNT⟩:∃L:List Nat,L=List.replicate 65536 0:=⟨_,rfl⟩;rw[←hNT] at F9;have HNT:=qaa hNT;have hn0:0<NT0.length:=by rw[hNT,List.length_replicate];decide
   clear hNT;obtain⟨s0,s1⟩:=F9.out.fr.slotN (i:=0) (by simp) rfl (k:=0) hn0;have F10:Hid (FrP w5 [(.slice (some ⟨gt,0,none⟩) 65536 65536,3,qab (NT0.set 0 1)),((.slice none 0 0),3,qab []),(.slice (some ⟨bx,0,none⟩) 3 3,24,[.string ⟨bs.toArray⟩,(.slice none 0 0),.slice none 0 0])] bv (spP (fst.map (pcP bsA bsB))) (.slice none 0 0) (spP []) (w9.setCell ⟨gt,0,none⟩ (.int .i64 1))):=by
    have:=F9.out.store (i:=0) (by simp) rfl 0 (.int .i64 ((1:Nat):Int));rw[qbq] at this;exact this
   clear F9;go_upto_region 19 with fail
   clear s0 s1;generalize w9.setCell ⟨gt,0,none⟩ (.int .i64 1)=w10 at *;have F11:=qaa (F10.out.pair ((0:Int),(0:Int)));go_upto_region 20 with fail
   obtain⟨w11,hw11⟩:∃w11,w11=w10.alloc (.cells #[.int .i64 0,.int .i64 0] 48):=⟨_,rfl⟩;obtain⟨lv0,hlv0⟩:∃lv0:Value,lv0=.slice (some ⟨w10.heap.size,0,none⟩) 1 1:=⟨_,rfl⟩;have F12:Hid (FrP w5 [(.slice (some ⟨gt,0,none⟩) 65536 65536,3,qab (NT0.set 0 1)),((.slice none 0 0),3,qab []),(.slice (some ⟨bx,0,none⟩) 3 3,24,[.string ⟨bs.toArray⟩,(.slice none 0 0),.slice none 0 0])] bv (spP (fst.map (pcP bsA bsB))) lv0 (spP [(0,0)]) w11):=by rw[hw11,hlv0];exact F11.out
   rw[←hw11,←hlv0];clear hw11 hlv0 F10 F11;have E0:Hid (ExS (0,0) (joC (dfA bsA NA OA) (dfA bsB NB OB) fst) fst.length [(0,0)] [] 0 0):=ExS.start;have N0:Hid (PaJ [(0,0)] (NT0.set 0 1)):=by rw[HNT.out];exact PaJ.start
   have V0:Hid (∀p∈[((0,0):Nat×Nat)],p.1<OA.length∧p.2<OB.length):=fun p hp=>by
    rw[List.mem_singleton.1 hp];exact⟨HMA.out.n0,HMB.out.n0⟩
   have hlb:∃g c,bv=.slice g fst.length c:=by
    obtain⟨g,c,e⟩:=F12.out.swap.shape;rw[qbe,List.length_map] at e;exact⟨g,c,e⟩
   obtain⟨bg,bc,rfl⟩:=hlb;go_wp2;go_loopg [16,17] 65537 (fun g x y wr=>∃(i:Nat) (St:List (Nat×Nat)) (X NT:List Nat) (lv xv:Value),lv=x∧y=.int .i64 (i:Nat)∧i≤St.length∧Hid (FrP w5 [(.slice (some ⟨gt,0,none⟩) 65536 65536,3,qab NT),(xv,3,qab X),(.slice (some ⟨bx,0,none⟩) 3 3,24,[.string ⟨bs.toArray⟩,xv,.slice none 0 0])] (.slice bg fst.length bc) (spP (fst.map (pcP bsA bsB))) lv (spP St) wr)∧Hid (ExS (0,0) (joC (dfA bsA NA OA) (dfA bsB NB OB) fst) fst.length St X i 0)∧Hid (PaJ St NT)∧Hid (∀p∈St,p.1<OA.length∧p.2<OB.length)∧65536-i<g)
   case atStart=>exact⟨0,[(0,0)],[],_,lv0,_,rfl,rfl,by simp,F12,E0,N0,V0,by omega⟩
   case round=>
    clear F12 E0 N0 V0;obtain⟨i,St,X,NT,lv,xv,rfl,rfl,hi1,F,E,NS,VS,hg⟩:=hrel;have HG:=qaa hg;clear hg;have hSt:St.length≤65536:=NS.out.few E.out.nd;obtain⟨la,lc,hlv⟩:=F.out.shape;rw[qbe] at hlv;subst hlv;by_cases hi:i<St.length
    ·have hi':(i:Int)<(St.length:Int):=by omega
     go_wp2;go_loopg [16,18] (fst.length+1) (fun g x y wr=>∃(j:Nat) (St:List (Nat×Nat)) (X NT:List Nat) (lv xv:Value),lv=x∧y=.int .i64 (j:Nat)∧j≤fst.length∧i<St.length∧Hid (FrP w5 [(.slice (some ⟨gt,0,none⟩) 65536 65536,3,qab NT),(xv,3,qab X),(.slice (some ⟨bx,0,none⟩) 3 3,24,[.string ⟨bs.toArray⟩,xv,.slice none 0 0])] (.slice bg fst.length bc) (spP (fst.map (pcP bsA bsB))) lv (spP St) wr)∧Hid (ExS (0,0) (joC (dfA bsA NA OA) (dfA bsB NB OB) fst) fst.length St X i j)∧Hid (PaJ St NT)∧Hid (∀p∈St,p.1<OA.length∧p.2<OB.length)∧fst.length-j<g)
     case atStart=>exact⟨0,St,X,NT,_,xv,rfl,rfl,by omega,hi,F,E,NS,VS,by omega⟩
     case round=>
      clear F E NS VS hi hi' hi1 hSt;obtain⟨j,St,X,NT,lv,xv,rfl,rfl,hj1,hi,F,E,NS,VS,hg⟩:=hrel;have HGJ:=qaa hg;clear hg;have hSt:St.length≤65536:=NS.out.few E.out.nd;by_cases hj:j<fst.length
      ·have hj':(j:Int)<(fst.length:Int):=by omega
       obtain⟨lg,lc,el,e1,e2⟩:=F.out.at2 (i:=i) (by rw[qbe];exact hi);rw[qbe] at el;subst el;obtain⟨bg2,bc2,eb,g1,g2⟩:=F.out.swap.at2 (i:=j) (by rw[qbe,List.length_map];exact hj);simp only[Value.slice.injEq] at eb;obtain⟨rfl,-,rfl⟩:=eb;rw[qd9 hi] at e1 e2;rw[qd9 (by rw[List.length_map];exact hj),qmm hj] at g1 g2;have hpv:(gS (0,0) St i).1<OA.length∧(gS (0,0) St i).2<OB.length:=by
        rw[qb2 hi];exact VS.out _ (List.getElem_mem hi)
       have hfl:=HNF.out.fstlt j hj;obtain⟨kA,hkA,hkA2⟩:∃kA,kA=(gS (0,0) St i).1*wA+(pcP bsA bsB (gN fst j)).1∧kA<NA.length:=⟨_,rfl,by
        have hw:=qdj HMA.out HRA.out;rw[HWA.out,←hw];exact HMA.out.at hpv.1 (HMA.out.bw _ hfl)⟩
       obtain⟨kB,hkB,hkB2⟩:∃kB,kB=(gS (0,0) St i).2*wB+(pcP bsA bsB (gN fst j)).2∧kB<NB.length:=⟨_,rfl,by
        have hw:=qdj HMB.out HRB.out;rw[HWB.out,←hw];exact HMB.out.at hpv.2 (HMB.out.bw _ hfl)⟩
       have HST:Hid (joC (dfA bsA NA OA) (dfA bsB NB OB) fst (gS (0,0) St i) j=(gN NA kA,gN NB kB)∧gN NA kA<OA.length∧gN NB kB<OB.length):=by
        have q1:(dfA bsA NA OA).step (gS (0,0) St i).1 (gN fst j)=gN NA kA:=by
         rw[hkA,HWA.out,←qdj HMA.out HRA.out];rfl
        have q2:(dfA bsB NB OB).step (gS (0,0) St i).2 (gN fst j)=gN NB kB:=by
         rw[hkB,HWB.out,←qdj HMB.out HRB.out];rfl
        exact⟨by unfold joC;rw[q1,q2],by rw[←q1];exact HMA.out.ok.step hpv.1 hfl,by rw[←q2];exact HMB.out.ok.step hpv.2 hfl⟩
       have hwl:wA≤256∧wB≤256:=by
        rw[HWA.out,HWB.out,←qdj HMA.out HRA.out,←qdj HMB.out HRB.out];exact⟨HMA.out.w1,HMB.out.w1⟩
       have hcc:(pcP bsA bsB (gN fst j)).1<256∧(pcP bsA bsB (gN fst j)).2<256:=⟨(bsA.getD (gN fst j) 0).toNat_lt,(bsB.getD (gN fst j) 0).toNat_lt⟩;obtain⟨p1,hp1⟩:∃p1,p1=(gS (0,0) St i).1:=⟨_,rfl⟩;obtain⟨p2,hp2⟩:∃p2,p2=(gS (0,0) St i).2:=⟨_,rfl⟩;obtain⟨ca,hca⟩:∃ca,ca=(pcP bsA bsB (gN fst j)).1:=⟨_,rfl⟩;obtain⟨cb,hcb⟩:∃cb,cb=(pcP bsA bsB (gN fst j)).2:=⟨_,rfl⟩;simp only[←hp1,←hp2,←hca,←hcb] at e1 e2 g1 g2 hkA hkB hpv hcc;obtain⟨hpv1,hpv2⟩:=hpv;obtain⟨hcc1,hcc2⟩:=hcc;obtain⟨hwl1,hwl2⟩:=hwl;have hmA:p1*wA≤65536:=by
        have:p1*wA≤256*256:=Nat.mul_le_mul (by omega) hwl1;omega
       have hmB:p2*wB≤65536:=by
        have:p2*wB≤256*256:=Nat.mul_le_mul (by omega) hwl2;omega
       obtain⟨m1,hm1⟩:∃m:Int,m=(p1:Int)*(wA:Int):=⟨_,rfl⟩;obtain⟨m2,hm2⟩:∃m:Int,m=(p2:Int)*(wB:Int):=⟨_,rfl⟩;have f1:IntKind.i64.wrap ((p1:Int)*(wA:Int))=m1:=by rw[hm1,show(p1:Int)*(wA:Int)=((p1*wA:Nat):Int) by simp];exact qak _ (by omega)
       have f2:IntKind.i64.wrap (m1+(ca:Int))=(kA:Int):=by rw[hm1,hkA,show(p1:Int)*(wA:Int)+(ca:Int)=((p1*wA+ca:Nat):Int) by simp];exact qak _ (by omega)
       have f3:IntKind.i64.wrap ((p2:Int)*(wB:Int))=m2:=by rw[hm2,show(p2:Int)*(wB:Int)=((p2*wB:Nat):Int) by simp];exact qak _ (by omega)
       have f4:IntKind.i64.wrap (m2+(cb:Int))=(kB:Int):=by rw[hm2,hkB,show(p2:Int)*(wB:Int)+(cb:Int)=((p2*wB+cb:Nat):Int) by simp];exact qak _ (by omega)
       have HSE:Hid (∀V,FrP w5 [(.slice (some ⟨gt,0,none⟩) 65536 65536,3,qab NT),(xv,3,qab X),(.slice (some ⟨bx,0,none⟩) 3 3,24,[.string ⟨bs.toArray⟩,xv,.slice none 0 0])] (.slice (some ⟨bg2,0,none⟩) fst.length bc) (spP (fst.map (pcP bsA bsB))) (.slice (some ⟨lg,0,none⟩) St.length lc) (spP St) V→(V.cell? ⟨lg,i*2,none⟩=some (.int .i64 (p1:Int))∧V.cell? ⟨lg,i*2+1,none⟩=some (.int .i64 (p2:Int))∧V.cell? ⟨bg2,j*2,none⟩=some (.int .i64 (ca:Int))∧V.cell? ⟨bg2,j*2+1,none⟩=some (.int .i64 (cb:Int)))):=fun V F=>by
        obtain⟨lg2,lc2,el,e1,e2⟩:=F.at2 (i:=i) (by rw[qbe];exact hi);rw[qbe] at el;cases el;obtain⟨bg3,bc3,eb,g1,g2⟩:=F.swap.at2 (i:=j) (by rw[qbe,List.length_map];exact hj);simp only[Value.slice.injEq,Option.some.injEq,Addr.mk.injEq,and_true] at eb;obtain⟨rfl,-,rfl⟩:=eb;rw[qd9 hi] at e1 e2;rw[qd9 (by rw[List.length_map];exact hj),qmm hj] at g1 g2;simp only[←hp1,←hp2,←hca,←hcb] at e1 e2 g1 g2;exact⟨e1,e2,g1,g2⟩
       clear hp1 hp2 hca hcb hkA hkB hm1 hm2 e1 e2 g1 g2 hfl hmA hmB;have hkAI:(kA:Int)<(NA.length:Int):=by omega
       have hkBI:(kB:Int)<(NB.length:Int):=by omega
       obtain⟨⟨_,c1,_⟩,⟨_,d1,_⟩,_,kkA,kkB,_⟩:=HC.out wr (bt X5.out F.out.fr.bel (Nat.le_refl _));obtain⟨xb,xoff,rfl,-,-⟩:=kkA.nx.get hkA2;have sA:=kkA.nx.atG hkA2;obtain⟨yb,yoff,rfl,-,-⟩:=kkB.nx.get hkB2;clear kkA kkB;obtain⟨e1,e2,g1,g2⟩:=HSE.out wr F.out;have hnA2:=HST.out.2.1;have hnB2:=HST.out.2.2;have HKB:=qaa hkB2;obtain⟨nA,hnA3⟩:∃n,n=gN NA kA:=⟨_,rfl⟩;obtain⟨nB,hnB3⟩:∃n,n=gN NB kB:=⟨_,rfl⟩;have HNB:=qaa hnB3;rw[←hnA3,←hnB3] at HST;rw[←hnA3] at hnA2 sA;rw[←hnB3] at hnB2;clear hnA3 hnB3;go_wp2;go_quiet (fail);obtain⟨wq,hwq⟩:∃wq,wq=wr.drewN nq:=⟨_,rfl⟩;have FQ:Hid (FrP w5 [(.slice (some ⟨gt,0,none⟩) 65536 65536,3,qab NT),(xv,3,qab X),(.slice (some ⟨bx,0,none⟩) 3 3,24,[.string ⟨bs.toArray⟩,xv,.slice none 0 0])] (.slice (some ⟨bg2,0,none⟩) fst.length bc) (spP (fst.map (pcP bsA bsB))) (.slice (some ⟨lg,0,none⟩) St.length lc) (spP St) wq):=by rw[hwq];exact F.out.drew nq
       rw[←hwq];clear hwq F c1 d1 sA e1 e2 g1 g2 f1 f2;obtain⟨_,⟨_,d1,_⟩,_,_,kkB,_⟩:=HC.out wq (bt X5.out FQ.out.fr.bel (Nat.le_refl _));have sB:=kkB.nx.atG HKB.out;rw[←HNB.out] at sB;obtain⟨e1,e2,g1,g2⟩:=HSE.out wq FQ.out;clear kkB;go_wp2;go_quiet (fail);obtain⟨wz,hwz⟩:∃wz,wz=wq.drewN nq:=⟨_,rfl⟩;have FZ:Hid (FrP w5 [(.slice (some ⟨gt,0,none⟩) 65536 65536,3,qab NT),(xv,3,qab X),(.slice (some ⟨bx,0,none⟩) 3 3,24,[.string ⟨bs.toArray⟩,xv,.slice none 0 0])] (.slice (some ⟨bg2,0,none⟩) fst.length bc) (spP (fst.map (pcP bsA bsB))) (.slice (some ⟨lg,0,none⟩) St.length lc) (spP St) wz):=by rw[hwz];exact FQ.out.drew nq
       rw[←hwz];clear hwz FQ d1 sB e1 e2 g1 g2 f3 f4 HSE HNB HKB hkAI hkBI hkA2 hkB2;have hnA3:nA<256:=by omega
       have hnB3:nB<256:=by omega
       obtain⟨c,hc⟩:∃c,c=nA*256+nB:=⟨_,rfl⟩;have hcb:c<65536:=by omega
       obtain⟨m3,hm3⟩:∃m:Int,m=(nA:Int)*256:=⟨_,rfl⟩;have f3:IntKind.i64.wrap ((nA:Int)*256)=m3:=by rw[hm3,show(nA:Int)*256=((nA*256:Nat):Int) by simp];exact qak _ (by omega)
       have f4:IntKind.i64.wrap (m3+(nB:Int))=(c:Int):=by rw[hm3,hc,show(nA:Int)*256+(nB:Int)=((nA*256+nB:Nat):Int) by simp];exact qak _ (by omega)
       have hcI:(c:Int)<65536:=by omega
       have HCD:Hid (cdP (nA,nB)=c):=hc.symm;have HXL:Hid (X.length≤16777216+256):=by
        have h1:=E.out.len;have h2:i*fst.length≤65536*256:=Nat.mul_le_mul (by omega) hM;unfold Hid;omega
       clear hm3 hc;obtain⟨t0,t1⟩:=FZ.out.fr.slotN (i:=0) (by simp) rfl (k:=c) (by rw[NS.out.nl];exact hcb);by_cases h0:gN NT c=0
       ·as_aux_lemma=>
        obtain⟨hne,HN0⟩:=NS.out.miss (p:=(nA,nB)) hnA3 hnB3 (by rw[HCD.out];exact h0);rw[HCD.out] at HN0;have NS2:=qaa HN0;have E2:Hid (ExS (0,0) (joC (dfA bsA NA OA) (dfA bsB NB OB) fst) fst.length (St++[(nA,nB)]) (X++[St.length]) i (j+1)):=E.out.new hi hj hne HST.out.1.symm;have VS2:Hid (∀p∈St++[(nA,nB)],p.1<OA.length∧p.2<OB.length):=fun p hp=>by
         rcases List.mem_append.1 hp with hp|hp
         ·exact VS.out p hp
         ·rw[List.mem_singleton.1 hp];exact HST.out.2
        rw[h0] at t0;obtain⟨k1,k2,k3⟩:=FZ.out.pre ((nA:Int),(nB:Int));rw[qbe] at k1;have P1:=qaa k1;have P2:=qaa k2;have P3:=qaa k3;have HPU:Hid (∀v' w6,w6.ownsRow w5.heap.size 48 2 v' (St.length+1) (qam (spP St)++[.int .i64 (nA:Int),.int .i64 (nB:Int)])→qbb (wz.alloc (.cells #[.int .i64 (nA:Int),.int .i64 (nB:Int)] 48)) w6 (.slice (some ⟨lg,0,none⟩) St.length lc) v'→FrP w5 [(.slice (some ⟨gt,0,none⟩) 65536 65536,3,qab NT),(xv,3,qab X),(.slice (some ⟨bx,0,none⟩) 3 3,24,[.string ⟨bs.toArray⟩,xv,.slice none 0 0])] (.slice (some ⟨bg2,0,none⟩) fst.length bc) (spP (fst.map (pcP bsA bsB))) v' (spP (St++[(nA,nB)])) w6):=fun v' w6 k1 k2=>by
         rw[qhv];exact FZ.out.push ((nA:Int),(nB:Int)) (by rw[qbe];exact k1) k2
        have HCL:Hid (NT.length=65536):=NS.out.nl;have hSt2:St.length<65536:=by
         have h1:=NS2.out.few E2.out.nd;rw[List.length_append,List.length_singleton] at h1;omega
        clear k1 k2 k3 hne HN0 NS E VS FZ h0 HST;go_upto_region 30 with(at_builtin;refine qac rfl (.tmp 137) (.tmp 141) 44 rfl w5.heap.size 48 i48 (.agg #[.int .i64 0,.int .i64 0]) 2 16 Tryz.underlying44 hi48 hz480 hz481 hz482 rfl (by decide) _ St.length _ rfl P1.out ⟨wz.heap.size,0,none⟩ 1 1 [.int .i64 (nA:Int),.int .i64 (nB:Int)] rfl rfl P2.out (by simp[Value.oneCell']) (by decide) (by unfold maxLen;omega) (by omega) P3.out ?_;intro v6 w6 k1 k2;have F6:=qaa (HPU.out v6 w6 k1 k2);clear k1 k2)
        clear P1 P2 P3 HPU t0 t1;obtain⟨b6,cb6,e6⟩:=F6.out.shape;rw[qbe,List.length_append,List.length_singleton] at e6;subst e6;obtain⟨t0,t1⟩:=F6.out.fr.slotN (i:=0) (by simp) rfl (k:=c) (by rw[HCL.out];exact hcb);have F7:Hid (FrP w5 [(.slice (some ⟨gt,0,none⟩) 65536 65536,3,qab (NT.set c (St.length+1))),(xv,3,qab X),(.slice (some ⟨bx,0,none⟩) 3 3,24,[.string ⟨bs.toArray⟩,xv,.slice none 0 0])] (.slice (some ⟨bg2,0,none⟩) fst.length bc) (spP (fst.map (pcP bsA bsB))) (.slice b6 (St.length+1) cb6) (spP (St++[(nA,nB)])) (w6.setCell ⟨gt,c,none⟩ (.int .i64 ((St.length:Int)+1)))):=by
         have:=F6.out.store (i:=0) (by simp) rfl c (.int .i64 ((St.length+1:Nat):Int));rw[qbq] at this;exact this
        clear F6;go_upto_region 31 with fail
        clear t0 t1;generalize w6.setCell ⟨gt,c,none⟩ (.int .i64 ((St.length:Int)+1))=w8 at *;have HCE:Hid (gN (NT.set c (St.length+1)) c=St.length+1):=qd5 (by rw[HCL.out];exact hcb) _;have HCL2:Hid ((NT.set c (St.length+1)).length=65536):=by unfold Hid;rw[List.length_set];exact HCL.out
        have hi2:i<(St++[(nA,nB)]).length:=by rw[List.length_append];omega
        obtain⟨q,hqe⟩:∃q,q=St.length:=⟨_,rfl⟩;have hq:q<65536:=by omega
        rw[←hqe] at HCE NS2 E2 F7 HCL2;rw[←hqe];clear hqe HCL;have f7:IntKind.i64.wrap ((q:Int)+1-1)=(q:Int):=by rw[show(q:Int)+1-1=((q:Nat):Int) by omega];exact qak _ (by omega)
        have f8:IntKind.i64.wrap (q:Int)=(q:Int):=qak _ (by omega);have FD:Hid (FrP w5 [(.slice (some ⟨gt,0,none⟩) 65536 65536,3,qab (NT.set c (q+1))),(xv,3,qab X),(.slice (some ⟨bx,0,none⟩) 3 3,24,[.string ⟨bs.toArray⟩,xv,.slice none 0 0])] (.slice (some ⟨bg2,0,none⟩) fst.length bc) (spP (fst.map (pcP bsA bsB))) (.slice b6 (q+1) cb6) (spP (St++[(nA,nB)])) w8.drew):=F7.out.drew 1;refine qco (S:=fun V=>V.cell? ⟨bx,1,none⟩=some xv∧V.cell? ⟨gt,c,none⟩=some (.int .i64 ((q:Int)+1))) 13 (by kernel_rfl) ?_;generalize w8.drew=wd at *;have HSQ:Hid (∀V,FrP w5 [(.slice (some ⟨gt,0,none⟩) 65536 65536,3,qab (NT.set c (q+1))),(xv,3,qab X),(.slice (some ⟨bx,0,none⟩) 3 3,24,[.string ⟨bs.toArray⟩,xv,.slice none 0 0])] (.slice (some ⟨bg2,0,none⟩) fst.length bc) (spP (fst.map (pcP bsA bsB))) (.slice b6 (q+1) cb6) (spP (St++[(nA,nB)])) V→(fun V=>V.cell? ⟨bx,1,none⟩=some xv∧V.cell? ⟨gt,c,none⟩=some (.int .i64 ((q:Int)+1))) V):=fun V F=>by
         obtain⟨y0,-⟩:=F.fr.slot (i:=2) (by simp) rfl (k:=1) (by simp);obtain⟨y1,-⟩:=F.fr.slotN (i:=0) (by simp) rfl (k:=c) (by rw[HCL2.out];exact hcb);rw[HCE.out] at y1;simp only[List.getElem_cons_succ,List.getElem_cons_zero] at y0;exact⟨y0,y1⟩
        have HS0:Hid ((fun V=>V.cell? ⟨bx,1,none⟩=some xv∧V.cell? ⟨gt,c,none⟩=some (.int .i64 ((q:Int)+1))) wd):=HSQ.out wd FD.out;refine qaj.tk 0 rfl 151 HS0.out (fun w' ⟨q0,q1⟩=>by go_simp;first|done|rfl) ?_
        try simp only[Act.put,List.setIfInBounds_toArray,List.set_cons_zero,List.set_cons_succ]
        refine qaj.tk 1 rfl 152 HS0.out (fun w' ⟨q0,q1⟩=>by go_simp;first|done|rfl) ?_
        try simp only[Act.put,List.setIfInBounds_toArray,List.set_cons_zero,List.set_cons_succ]
        refine qaj.tk 2 rfl 153 HS0.out (fun w' ⟨q0,q1⟩=>by go_simp;first|done|rfl) ?_
        try simp only[Act.put,List.setIfInBounds_toArray,List.set_cons_zero,List.set_cons_succ]
        refine qaj.tk 3 rfl 154 HS0.out (fun w' ⟨q0,q1⟩=>by go_simp;first|done|rfl) ?_
        try simp only[Act.put,List.setIfInBounds_toArray,List.set_cons_zero,List.set_cons_succ]
        refine qaj.tk 4 rfl 155 HS0.out (fun w' ⟨q0,q1⟩=>by go_simp;first|done|rfl) ?_
        try simp only[Act.put,List.setIfInBounds_toArray,List.set_cons_zero,List.set_cons_succ]
        refine qaj.tk 5 rfl 156 HS0.out (fun w' ⟨q0,q1⟩=>by go_simp;first|done|rfl) ?_
        try simp only[Act.put,List.setIfInBounds_toArray,List.set_cons_zero,List.set_cons_succ]
        refine qaj.tk 6 rfl 157 HS0.out (fun w' ⟨q0,q1⟩=>by go_simp;first|done|rfl) ?_
        try simp only[Act.put,List.setIfInBounds_toArray,List.set_cons_zero,List.set_cons_succ]
        refine qaj.tk 7 rfl 158 HS0.out (fun w' ⟨q0,q1⟩=>by go_simp;first|done|rfl) ?_
        try simp only[Act.put,List.setIfInBounds_toArray,List.set_cons_zero,List.set_cons_succ]
        refine qaj.tk 8 rfl 159 HS0.out (fun w' ⟨q0,q1⟩=>by go_simp;first|done|rfl) ?_
        try simp only[Act.put,List.setIfInBounds_toArray,List.set_cons_zero,List.set_cons_succ]
        refine qaj.tk 9 rfl 160 HS0.out (fun w' ⟨q0,q1⟩=>by go_simp;first|done|rfl) ?_
        try simp only[Act.put,List.setIfInBounds_toArray,List.set_cons_zero,List.set_cons_succ]
        try simp only[Act.put,List.setIfInBounds_toArray,List.set_cons_zero,List.set_cons_succ]
        obtain⟨k1,k2,k3⟩:=FD.out.fr.pre (i:=1) (by simp) rfl ((q:Nat):Int);have Q1:Hid ((wd.alloc (.cells #[.int .i64 (q:Int)] 3)).ownsRow w5.heap.size 3 1 xv X.length (qab X)):=k1;have Q2:Hid (∀(j:Nat) (u:Value),[Value.int .i64 (q:Int)][j]? =some u→(wd.alloc (.cells #[.int .i64 (q:Int)] 3)).cell? ((⟨wd.heap.size,0,none⟩:Addr).add j)=some u):=k2;have Q3:Hid (w5.heap.size≤(wd.alloc (.cells #[.int .i64 (q:Int)] 3)).heap.size):=k3;have YD:Hid (Below wd.heap.size wd (wd.alloc (.cells #[.int .i64 (q:Int)] 3))):=al (Below.refl _ _) _;have HS1:Hid ((fun V=>V.cell? ⟨bx,1,none⟩=some xv∧V.cell? ⟨gt,c,none⟩=some (.int .i64 ((q:Int)+1))) (wd.alloc (.cells #[.int .i64 (q:Int)] 3))):=HSQ.out _ (FD.out.below YD.out);have HPU:Hid (∀(g7 cap7:Nat) (w7:World),w7.ownsRow w5.heap.size 3 1 (.slice (some ⟨g7,0,none⟩) (X.length+1) cap7) (X.length+1) (qab X++[.int .i64 (q:Int)])→(wd.alloc (.cells #[.int .i64 (q:Int)] 3)).grownBy w7 xv.ownBlock→(xv.ownBlock=some g7∨g7=(wd.alloc (.cells #[.int .i64 (q:Int)] 3)).heap.size)→FrP w5 [(.slice (some ⟨gt,0,none⟩) 65536 65536,3,qab (NT.set c (q+1))),((.slice (some ⟨g7,0,none⟩) (X.length+1) cap7),3,qab (X++[q])),(.slice (some ⟨bx,0,none⟩) 3 3,24,[.string ⟨bs.toArray⟩,xv,.slice none 0 0])] (.slice (some ⟨bg2,0,none⟩) fst.length bc) (spP (fst.map (pcP bsA bsB))) (.slice b6 (q+1) cb6) (spP (St++[(nA,nB)])) w7):=fun g7 cap7 w7 h1 h2 h3=>by
         rw[qa1];have:=FD.out.lies (al (Below.refl _ _) _) (i:=1) (by simp) rfl (g6:=g7) (cap6:=cap7) (x:=.int .i64 ((q:Nat):Int)) (by rw[qaf];exact h1) h2 h3;rw[qaf] at this;exact this
        clear k1 k2 k3;refine qaj.step (i:=10) (by kernel_rfl) rfl (fun K hK=>?_);go_simp;refine hK _ _ HS1.out ?_;clear hK K;refine qaj.step (i:=11) (by kernel_rfl) rfl (fun K hK=>?_);have hXL:=HXL.out;refine step_append_lies _ (by rfl) (.tmp 152) (.tmp 161) 22 (by rfl) w5.heap.size 3 i3 (.int .i64 0) 1 8 Tryz.underlying22 hi3 hz30 hz31 hz32 rfl (by decide) _ X.length (qab X) (by rfl) Q1.out ⟨wd.heap.size,0,none⟩ 1 1 [.int .i64 (q:Int)] (by rfl) (by rfl) Q2.out (by simp[Value.oneCell']) (by decide) (by unfold maxLen;omega) (by omega) Q3.out _ rfl ?_;intro g7 cap7 w7 h1 h2 h3 h4;have F7:=qaa (HPU.out g7 cap7 w7 h1 h2 h3);have HS2:Hid ((fun V=>V.cell? ⟨bx,1,none⟩=some xv∧V.cell? ⟨gt,c,none⟩=some (.int .i64 ((q:Int)+1))) w7):=by
         obtain⟨y0,-⟩:=F7.out.fr.slot (i:=2) (by simp) rfl (k:=1) (by simp);obtain⟨y1,-⟩:=F7.out.fr.slotN (i:=0) (by simp) rfl (k:=c) (by rw[HCL2.out];exact hcb);rw[HCE.out] at y1;simp only[List.getElem_cons_succ,List.getElem_cons_zero] at y0;exact⟨y0,y1⟩
        refine hK _ _ HS2.out ?_;refine qaj.tk 12 rfl 163 HS2.out (fun w' ⟨q0,q1⟩=>by go_simp;first|done|rfl) ?_
        try simp only[Act.put,List.setIfInBounds_toArray]
        clear hK K h1 h2 h3 h4 HPU Q1 Q2 Q3 YD HS0 HS1 HSQ FD hXL;obtain⟨z0,z1⟩:=F7.out.fr.slot (i:=2) (by simp) rfl (k:=1) (by simp);simp only[List.getElem_cons_succ,List.getElem_cons_zero] at z0;have F8:Hid (FrP w5 [(.slice (some ⟨gt,0,none⟩) 65536 65536,3,qab (NT.set c (q+1))),((.slice (some ⟨g7,0,none⟩) (X.length+1) cap7),3,qab (X++[q])),(.slice (some ⟨bx,0,none⟩) 3 3,24,[.string ⟨bs.toArray⟩,(.slice (some ⟨g7,0,none⟩) (X.length+1) cap7),.slice none 0 0])] (.slice (some ⟨bg2,0,none⟩) fst.length bc) (spP (fst.map (pcP bsA bsB))) (.slice b6 (q+1) cb6) (spP (St++[(nA,nB)])) (w7.setCell ⟨bx,1,none⟩ (.slice (some ⟨g7,0,none⟩) (X.length+1) cap7))):=F7.out.store (i:=2) (by simp) rfl 1 _;refine qaj.last (by kernel_rfl) rfl (by kernel_rfl) (by kernel_rfl) (fun K hK=>?_);go_simp;refine hK _ _ ?_;clear hK K z0 z1 F7 HS2;generalize w7.setCell ⟨bx,1,none⟩ (.slice (some ⟨g7,0,none⟩) (X.length+1) cap7)=wy at *;go_wp2;go_roundg (fst.length-(j+1)+1)
        case measure=>have:=HGJ.out;omega
        case rel=>exact⟨j+1,_,X++[q],_,_,_,rfl,by first|rfl|go_num|(congr 1;omega),by omega,hi2,F8,E2,NS2,VS2,by omega⟩
       ·as_aux_lemma=>
        obtain⟨hq1,hq2⟩:=NS.out.hit (p:=(nA,nB)) hnA3 hnB3 (by rw[HCD.out];exact h0);rw[HCD.out] at hq1 hq2;obtain⟨q,hqe⟩:∃q,q=gN NT c-1:=⟨_,rfl⟩;rw[←hqe] at hq1 hq2;have E2:Hid (ExS (0,0) (joC (dfA bsA NA OA) (dfA bsB NB OB) fst) fst.length St (X++[q]) i (j+1)):=E.out.old hj hq1 (by rw[hq2];exact HST.out.1.symm);have HCE:Hid (gN NT c=q+1):=by unfold Hid;omega
        have HCL2:Hid (NT.length=65536):=NS.out.nl;have hq:q<65536:=by omega
        have hne:¬(q:Int)+1=0:=by omega
        have hne2:((q:Int)+1==0)=false:=beq_eq_false_iff_ne.2 hne;have NS2:=NS;have VS2:=VS;have hi2:=hi;rw[HCE.out] at t0;clear hqe h0 hq2 E NS VS HST;go_upto_region 31 with fail
        clear t0 t1;have f7:IntKind.i64.wrap ((q:Int)+1-1)=(q:Int):=by rw[show(q:Int)+1-1=((q:Nat):Int) by omega];exact qak _ (by omega)
        have f8:IntKind.i64.wrap (q:Int)=(q:Int):=qak _ (by omega);have FD:Hid (FrP w5 [(.slice (some ⟨gt,0,none⟩) 65536 65536,3,qab NT),(xv,3,qab X),(.slice (some ⟨bx,0,none⟩) 3 3,24,[.string ⟨bs.toArray⟩,xv,.slice none 0 0])] (.slice (some ⟨bg2,0,none⟩) fst.length bc) (spP (fst.map (pcP bsA bsB))) (.slice (some ⟨lg,0,none⟩) St.length lc) (spP St) wz.drew):=FZ.out.drew 1;refine qco (S:=fun V=>V.cell? ⟨bx,1,none⟩=some xv∧V.cell? ⟨gt,c,none⟩=some (.int .i64 ((q:Int)+1))) 13 (by kernel_rfl) ?_;generalize wz.drew=wd at *;have HSQ:Hid (∀V,FrP w5 [(.slice (some ⟨gt,0,none⟩) 65536 65536,3,qab NT),(xv,3,qab X),(.slice (some ⟨bx,0,none⟩) 3 3,24,[.string ⟨bs.toArray⟩,xv,.slice none 0 0])] (.slice (some ⟨bg2,0,none⟩) fst.length bc) (spP (fst.map (pcP bsA bsB))) (.slice (some ⟨lg,0,none⟩) St.length lc) (spP St) V→(fun V=>V.cell? ⟨bx,1,none⟩=some xv∧V.cell? ⟨gt,c,none⟩=some (.int .i64 ((q:Int)+1))) V):=fun V F=>by
         obtain⟨y0,-⟩:=F.fr.slot (i:=2) (by simp) rfl (k:=1) (by simp);obtain⟨y1,-⟩:=F.fr.slotN (i:=0) (by simp) rfl (k:=c) (by rw[HCL2.out];exact hcb);rw[HCE.out] at y1;simp only[List.getElem_cons_succ,List.getElem_cons_zero] at y0;exact⟨y0,y1⟩
        have HS0:Hid ((fun V=>V.cell? ⟨bx,1,none⟩=some xv∧V.cell? ⟨gt,c,none⟩=some (.int .i64 ((q:Int)+1))) wd):=HSQ.out wd FD.out;refine qaj.tk 0 rfl 151 HS0.out (fun w' ⟨q0,q1⟩=>by go_simp;first|done|rfl) ?_
        try simp only[Act.put,List.setIfInBounds_toArray,List.set_cons_zero,List.set_cons_succ]
        refine qaj.tk 1 rfl 152 HS0.out (fun w' ⟨q0,q1⟩=>by go_simp;first|done|rfl) ?_
        try simp only[Act.put,List.setIfInBounds_toArray,List.set_cons_zero,List.set_cons_succ]
        refine qaj.tk 2 rfl 153 HS0.out (fun w' ⟨q0,q1⟩=>by go_simp;first|done|rfl) ?_
        try simp only[Act.put,List.setIfInBounds_toArray,List.set_cons_zero,List.set_cons_succ]
        refine qaj.tk 3 rfl 154 HS0.out (fun w' ⟨q0,q1⟩=>by go_simp;first|done|rfl) ?_
        try simp only[Act.put,List.setIfInBounds_toArray,List.set_cons_zero,List.set_cons_succ]
        refine qaj.tk 4 rfl 155 HS0.out (fun w' ⟨q0,q1⟩=>by go_simp;first|done|rfl) ?_
        try simp only[Act.put,List.setIfInBounds_toArray,List.set_cons_zero,List.set_cons_succ]
        refine qaj.tk 5 rfl 156 HS0.out (fun w' ⟨q0,q1⟩=>by go_simp;first|done|rfl) ?_
        try simp only[Act.put,List.setIfInBounds_toArray,List.set_cons_zero,List.set_cons_succ]
        refine qaj.tk 6 rfl 157 HS0.out (fun w' ⟨q0,q1⟩=>by go_simp;first|done|rfl) ?_
        try simp only[Act.put,List.setIfInBounds_toArray,List.set_cons_zero,List.set_cons_succ]
        refine qaj.tk 7 rfl 158 HS0.out (fun w' ⟨q0,q1⟩=>by go_simp;first|done|rfl) ?_
        try simp only[Act.put,List.setIfInBounds_toArray,List.set_cons_zero,List.set_cons_succ]
        refine qaj.tk 8 rfl 159 HS0.out (fun w' ⟨q0,q1⟩=>by go_simp;first|done|rfl) ?_
        try simp only[Act.put,List.setIfInBounds_toArray,List.set_cons_zero,List.set_cons_succ]
        refine qaj.tk 9 rfl 160 HS0.out (fun w' ⟨q0,q1⟩=>by go_simp;first|done|rfl) ?_
        try simp only[Act.put,List.setIfInBounds_toArray,List.set_cons_zero,List.set_cons_succ]
        try simp only[Act.put,List.setIfInBounds_toArray,List.set_cons_zero,List.set_cons_succ]
        obtain⟨k1,k2,k3⟩:=FD.out.fr.pre (i:=1) (by simp) rfl ((q:Nat):Int);have Q1:Hid ((wd.alloc (.cells #[.int .i64 (q:Int)] 3)).ownsRow w5.heap.size 3 1 xv X.length (qab X)):=k1;have Q2:Hid (∀(j:Nat) (u:Value),[Value.int .i64 (q:Int)][j]? =some u→(wd.alloc (.cells #[.int .i64 (q:Int)] 3)).cell? ((⟨wd.heap.size,0,none⟩:Addr).add j)=some u):=k2;have Q3:Hid (w5.heap.size≤(wd.alloc (.cells #[.int .i64 (q:Int)] 3)).heap.size):=k3;have YD:Hid (Below wd.heap.size wd (wd.alloc (.cells #[.int .i64 (q:Int)] 3))):=al (Below.refl _ _) _;have HS1:Hid ((fun V=>V.cell? ⟨bx,1,none⟩=some xv∧V.cell? ⟨gt,c,none⟩=some (.int .i64 ((q:Int)+1))) (wd.alloc (.cells #[.int .i64 (q:Int)] 3))):=HSQ.out _ (FD.out.below YD.out);have HPU:Hid (∀(g7 cap7:Nat) (w7:World),w7.ownsRow w5.heap.size 3 1 (.slice (some ⟨g7,0,none⟩) (X.length+1) cap7) (X.length+1) (qab X++[.int .i64 (q:Int)])→(wd.alloc (.cells #[.int .i64 (q:Int)] 3)).grownBy w7 xv.ownBlock→(xv.ownBlock=some g7∨g7=(wd.alloc (.cells #[.int .i64 (q:Int)] 3)).heap.size)→FrP w5 [(.slice (some ⟨gt,0,none⟩) 65536 65536,3,qab NT),((.slice (some ⟨g7,0,none⟩) (X.length+1) cap7),3,qab (X++[q])),(.slice (some ⟨bx,0,none⟩) 3 3,24,[.string ⟨bs.toArray⟩,xv,.slice none 0 0])] (.slice (some ⟨bg2,0,none⟩) fst.length bc) (spP (fst.map (pcP bsA bsB))) (.slice (some ⟨lg,0,none⟩) St.length lc) (spP St) w7):=fun g7 cap7 w7 h1 h2 h3=>by
         rw[qa1];have:=FD.out.lies (al (Below.refl _ _) _) (i:=1) (by simp) rfl (g6:=g7) (cap6:=cap7) (x:=.int .i64 ((q:Nat):Int)) (by rw[qaf];exact h1) h2 h3;rw[qaf] at this;exact this
        clear k1 k2 k3;refine qaj.step (i:=10) (by kernel_rfl) rfl (fun K hK=>?_);go_simp;refine hK _ _ HS1.out ?_;clear hK K;refine qaj.step (i:=11) (by kernel_rfl) rfl (fun K hK=>?_);have hXL:=HXL.out;refine step_append_lies _ (by rfl) (.tmp 152) (.tmp 161) 22 (by rfl) w5.heap.size 3 i3 (.int .i64 0) 1 8 Tryz.underlying22 hi3 hz30 hz31 hz32 rfl (by decide) _ X.length (qab X) (by rfl) Q1.out ⟨wd.heap.size,0,none⟩ 1 1 [.int .i64 (q:Int)] (by rfl) (by rfl) Q2.out (by simp[Value.oneCell']) (by decide) (by unfold maxLen;omega) (by omega) Q3.out _ rfl ?_;intro g7 cap7 w7 h1 h2 h3 h4;have F7:=qaa (HPU.out g7 cap7 w7 h1 h2 h3);have HS2:Hid ((fun V=>V.cell? ⟨bx,1,none⟩=some xv∧V.cell? ⟨gt,c,none⟩=some (.int .i64 ((q:Int)+1))) w7):=by
         obtain⟨y0,-⟩:=F7.out.fr.slot (i:=2) (by simp) rfl (k:=1) (by simp);obtain⟨y1,-⟩:=F7.out.fr.slotN (i:=0) (by simp) rfl (k:=c) (by rw[HCL2.out];exact hcb);rw[HCE.out] at y1;simp only[List.getElem_cons_succ,List.getElem_cons_zero] at y0;exact⟨y0,y1⟩
        refine hK _ _ HS2.out ?_;refine qaj.tk 12 rfl 163 HS2.out (fun w' ⟨q0,q1⟩=>by go_simp;first|done|rfl) ?_
        try simp only[Act.put,List.setIfInBounds_toArray]
        clear hK K h1 h2 h3 h4 HPU Q1 Q2 Q3 YD HS0 HS1 HSQ FD hXL;obtain⟨z0,z1⟩:=F7.out.fr.slot (i:=2) (by simp) rfl (k:=1) (by simp);simp only[List.getElem_cons_succ,List.getElem_cons_zero] at z0;have F8:Hid (FrP w5 [(.slice (some ⟨gt,0,none⟩) 65536 65536,3,qab NT),((.slice (some ⟨g7,0,none⟩) (X.length+1) cap7),3,qab (X++[q])),(.slice (some ⟨bx,0,none⟩) 3 3,24,[.string ⟨bs.toArray⟩,(.slice (some ⟨g7,0,none⟩) (X.length+1) cap7),.slice none 0 0])] (.slice (some ⟨bg2,0,none⟩) fst.length bc) (spP (fst.map (pcP bsA bsB))) (.slice (some ⟨lg,0,none⟩) St.length lc) (spP St) (w7.setCell ⟨bx,1,none⟩ (.slice (some ⟨g7,0,none⟩) (X.length+1) cap7))):=F7.out.store (i:=2) (by simp) rfl 1 _;refine qaj.last (by kernel_rfl) rfl (by kernel_rfl) (by kernel_rfl) (fun K hK=>?_);go_simp;refine hK _ _ ?_;clear hK K z0 z1 F7 HS2;generalize w7.setCell ⟨bx,1,none⟩ (.slice (some ⟨g7,0,none⟩) (X.length+1) cap7)=wy at *;go_wp2;go_roundg (fst.length-(j+1)+1)
        case measure=>have:=HGJ.out;omega
        case rel=>exact⟨j+1,_,X++[q],_,_,_,rfl,by first|rfl|go_num|(congr 1;omega),by omega,hi2,F8,E2,NS2,VS2,by omega⟩
      ·obtain rfl:j=fst.length:=by omega
       have hj':¬(fst.length:Int)<(fst.length:Int):=by omega
       have E2:=qaa (E.out.row hi (by omega));go_wp2;go_roundg (65536-(i+1)+1)
       case measure=>have:=HG.out;omega
       case rel=>exact⟨i+1,St,X,NT,_,xv,rfl,by first|rfl|go_num|(congr 1;omega),by omega,F,E2,NS,VS,by omega⟩
    ·as_aux_lemma=>
     obtain rfl:i=St.length:=by omega
     have hi':¬(St.length:Int)<(St.length:Int):=by omega
     have ED:=qaa (E.out.done (by omega));obtain⟨xa,xc,ex,-⟩:=F.out.fr.nat (i:=1) (by simp) rfl;subst ex;obtain⟨y0,-⟩:=F.out.fr.slot (i:=2) (by simp) rfl (k:=0) (by simp);obtain⟨y1,-⟩:=F.out.fr.slot (i:=2) (by simp) rfl (k:=1) (by simp);obtain⟨y2,-⟩:=F.out.fr.slot (i:=2) (by simp) rfl (k:=2) (by simp);simp only[List.getElem_cons_succ,List.getElem_cons_zero] at y0 y1 y2;have XW:=qaa (bt X5.out F.out.fr.bel (Nat.le_refl _));obtain⟨_,_,BR,_⟩:=HC.out wr XW.out;have HBR:=qaa BR;have hw5:=(HC.out w5 X5.out).2.2.2.2.2;have HI:Hid ((Tryz.prog.info? 24).map (·.size)=some 3):=by unfold Hid;kernel_rfl
     have A4:Hid ((#[.string ⟨bs.toArray⟩,.slice xa X.length xc,.slice none 0 0]:Array Value).all (·.oneCell')=true):=by unfold Hid;simp[Value.oneCell']
     have B8:=setRow_heap wr (w.heap.size+2) _ #[.string ⟨bs.toArray⟩,.slice xa X.length xc,.slice none 0 0] 24 (0,0) BR;have k8:Kept (fun k=>k=w.heap.size+2) wr (wr.setRow (w.heap.size+2) #[.string ⟨bs.toArray⟩,.slice xa X.length xc,.slice none 0 0]):=qas;have x8:=bt HX3.out XW.out (Nat.le_refl _);have X8:=qaa (x8.trans (k8.below x8.size (fun b hb=>by omega)));have oX:=F.out.fr.own (i:=1) (by simp) rfl;rw[qaf] at oX;have oL:=F.out.q2;have HPF:Hid (PrP bsA bsB NA OA NB OB w.heap.size (.returned (.tuple #[.agg #[.string ⟨bs.toArray⟩,.slice xa X.length xc,.slice none 0 0],.slice la St.length lc])) (wr.setRow (w.heap.size+2) #[.string ⟨bs.toArray⟩,.slice xa X.length xc,.slice none 0 0])):=by
      refine⟨num,fst,X,St,xa,la,xc,lc,by rw[HBS.out],HNM.out,by have:=HNF.out;rwa [HKK.out] at this,ED.out,VS.out,?_,?_⟩
      ·refine qai (qbx oX (by omega)) k8 fun b hb hf=>?_
       have:=(World.ownsRow.lt oX b hb).1;omega
      ·refine qai (qa3.mono oL (by omega)) k8 fun b hb hf=>?_
       have:=(World.ownsRow.lt oL b hb).1;omega
     have z0:=cell_of_row _ _ 0 _ _ _ B8;have z1:=cell_of_row _ _ 1 _ _ _ B8;have z2:=cell_of_row _ _ 2 _ _ _ B8;clear B8 k8 BR x8 oX oL;go_wp2_with (refine wpList_store_row rfl 24 (.tmp 4) (.tmp 164) rfl (w.heap.size+2) #[.string ⟨bs.toArray⟩,.slice xa X.length xc,.slice none 0 0] rfl rfl 24 #[.string ⟨#[]⟩,.slice none 0 0,.slice none 0 0] HBR.out HI.out rfl A4.out ?_);refine bodyPost_ret (by simp[results,Tryz.results62,go_sem,z0,z1,z2];try rfl) rfl ?_;exact⟨HPF.out,X8.out⟩
end Go.Proofs.YtdgoilkgplnhfaaGreat

