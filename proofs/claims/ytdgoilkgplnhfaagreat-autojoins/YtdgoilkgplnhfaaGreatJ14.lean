/-
  The functions that Join hands on, by their contracts. Condition: both automata may be.
-/
import Derived.Deep.RegionHeld3
import Derived.Deep.WholeRow
import Derived.Laws.CopyOwn
import Derived.Deep.DeepCutAuto
import Derived.Deep.RegionWith
import Derived.Test.YtdgoilkgplnhfaaGreatJ13
import Derived.Test.YtdgoilkgplnhfaaGreatJ12
import Derived.Great.BuildSlice
import Derived.Test.YtdgoilkgplnhfaaGreatJ07
namespace Go.Proofs.YtdgoilkgplnhfaaGreat
open Go.RowKit Go.Lib Go.Maps
theorem qfm {bs:By} {NX OU:List Nat} (na oa:Option Addr) (nc oc s q:Nat) (w:World) (hM:qbv bs NX OU) (hs:s<OU.length) (hq:q<256) (hat:NAt w na NX):
 Calls Tryz.prog 58 #[.agg #[.string ⟨bs.toArray⟩,.slice na NX.length nc,.slice oa OU.length oc],.int .i64 (s:Nat),.int .i64 (q:Nat)] w fun e w'=>e=.returned (.int .i64 (((dfA bs NX OU).step s q:Nat):Int))∧Below w.heap.size w w':=by
 have qA:q<bs.length:=by rw[hM.bl];exact hq
 have hn:=hM.nxl;have hi:=hM.at hs (hM.bw q hq);have:=qer bs na oa nc oc OU.length s q (NX.length/OU.length) (bs.getD q 0).toNat NX w (by omega) hM.n0 rfl qA (by simp[List.getD_eq_getElem?_getD,qA]) hi hat;rw[←qah hi] at this;exact this
theorem put2 {w:World} (V:World) (g:Nat) (x:Below w.heap.size w V) (b:V.heap[g]? =some (.cells #[.int .i64 0,.int .i64 0] 101 (0,0))) (u v:Int) (hg:w.heap.size≤g):
 (((V.setCell ⟨g,0,none⟩ (.int .i64 u)).setCell ⟨g,1,none⟩ (.int .i64 v)).drew).heap[g]? =some (.cells #[.int .i64 u,.int .i64 v] 101 (0,0))∧Below w.heap.size w (((V.setCell ⟨g,0,none⟩ (.int .i64 u)).setCell ⟨g,1,none⟩ (.int .i64 v)).drew):=by
 have k1:Kept (fun i=>i=g) V (V.setCell ⟨g,0,none⟩ (.int .i64 u)):=Kept.setCell (F:=fun i=>i=g) (p:=⟨g,0,none⟩) (Kept.refl _ _) rfl _;have k2:Kept (fun i=>i=g) V ((V.setCell ⟨g,0,none⟩ (.int .i64 u)).setCell ⟨g,1,none⟩ (.int .i64 v)):=Kept.setCell (F:=fun i=>i=g) (p:=⟨g,1,none⟩) k1 rfl _;refine⟨?_,(x.trans (k2.below x.size (fun i hi=>by omega))).drew⟩;exact block_setCell (block_setCell b 0 (.int .i64 u)) 1 (.int .i64 v)
set_option maxRecDepth 100000 in
set_option maxHeartbeats 4000000 in
theorem qi6 (b p0 p1:Nat) (bsA bsB:By) (w:World) (hb:b<256) (hA:bsA.length=256) (hB:bsB.length=256) (h0:w.cell? ⟨p0,0,none⟩=some (.string ⟨bsA.toArray⟩)) (h1:w.cell? ⟨p1,0,none⟩=some (.string ⟨bsB.toArray⟩)) (l0:p0<w.heap.size) (l1:p1<w.heap.size):
 Calls Tryz.prog 55 #[.int .i64 (b:Nat),.pointer (some ⟨p0,0,none⟩),.pointer (some ⟨p1,0,none⟩)] w fun e w'=>e=.returned (.agg (prV ((bsA.getD b 0).toNat,(bsB.getD b 0).toNat)))∧Below w.heap.size w w':=by
 have hbA:b<bsA.length:=by omega
 have hbB:b<bsB.length:=by omega
 have eA:bsA.getD b 0=bsA[b]:=by simp[List.getD_eq_getElem?_getD,hbA]
 have eB:bsB.getD b 0=bsB[b]:=by simp[List.getD_eq_getElem?_getD,hbB]
 rw[eA,eB];obtain⟨x,hx⟩:∃x,bsA[b]=x:=⟨_,rfl⟩;obtain⟨y,hy⟩:∃y,bsB[b]=y:=⟨_,rfl⟩;have gx:∀hk,(⟨bsA.toArray⟩:ByteArray)[b]'hk=x:=fun _=>hx
 have gy:∀hk,(⟨bsB.toArray⟩:ByteArray)[b]'hk=y:=fun _=>hy
 rw[hx,hy];clear eA eB hx hy;have hA':(b:Int)<(bsA.length:Int):=by omega
 have hB':(b:Int)<(bsB.length:Int):=by omega
 have wx:IntKind.i64.wrap ((x.toNat:Nat):Int)=((x.toNat:Nat):Int):=by have:=x.toNat_lt;simp[IntKind.wrap,IntKind.bits,IntKind.signed];omega
 have wy:IntKind.i64.wrap ((y.toNat:Nat):Int)=((y.toNat:Nat):Int):=by have:=y.toNat_lt;simp[IntKind.wrap,IntKind.bits,IntKind.signed];omega
 have X1:Below w.heap.size w (w.alloc (.cells #[.int .i64 0,.int .i64 0] 101)):=al (Below.refl _ _) _;have B1:=heap_alloc_new w (.cells #[.int .i64 0,.int .i64 0] 101);have c0:=(X1.cell (p:=⟨p0,0,none⟩) l0).trans h0;have c1:=(X1.cell (p:=⟨p1,0,none⟩) l1).trans h1;obtain⟨w1,hw1⟩:∃w1,w1=w.alloc (.cells #[.int .i64 0,.int .i64 0] 101):=⟨_,rfl⟩;rw[←hw1] at X1 B1 c0 c1;have HB1:=qaa B1;have HX1:=qaa X1;have d0:=cell_of_row _ _ 0 _ _ _ B1;have d1:=cell_of_row _ _ 1 _ _ _ B1;have f0:=frozen_of_row _ _ 0 _ _ B1;have f1:=frozen_of_row _ _ 1 _ _ B1;have HPUT:=qaa (fun V x b u v=>put2 (w:=w) V w.heap.size x b u v (Nat.le_refl _));clear X1 B1 h0 h1;unfold prV;go_enter Tryz.func55,Tryz.ntmps55;go_upto_region 1 with fail
 rw[←hw1];clear hw1;go_region_held3 (fun V=>V.cell? ⟨p0,0,none⟩=some (.string ⟨bsA.toArray⟩)∧V.cell? ⟨p1,0,none⟩=some (.string ⟨bsB.toArray⟩)) (first|assumption|exact⟨c0,c1⟩|(simp[go_sem, *];done)) (first|fail)
 all_goals
  go_wp2;obtain⟨z1,z2⟩:=HPUT.out w1 HX1.out HB1.out (x.toNat:Int) (y.toNat:Int);have HI:(Tryz.prog.info? 101).map (·.size)=some (#[Value.int .i64 (x.toNat:Int),Value.int .i64 (y.toNat:Int)]:Array Value).size:=by rw[(zero_of_info Tryz.info101).2];rfl
  refine bodyPost_ret (v:=.agg #[.int .i64 (x.toNat:Int),.int .i64 (y.toNat:Int)]) (results_cell_row rfl _ _ w.heap.size 101 #[.int .i64 (x.toNat:Int),.int .i64 (y.toNat:Int)] (0,0) _ rfl z1 Tryz.underlying101 rfl HI) rfl ?_;exact⟨rfl,z2⟩
set_option maxRecDepth 100000 in
set_option maxHeartbeats 8000000 in
theorem qi7 (s1 s2 c q p0 p1 p2:Nat) (bsA bsB:By) (xA oA xB oB fa:Option Addr) (xAc oAc xBc oBc fc:Nat) (NA OA NB OB fst:List Nat) (w:World) (hA:qbv bsA NA OA) (hB:qbv bsB NB OB) (h1:s1<OA.length) (h2:s2<OB.length) (hq:fst[c]? =some q) (hqb:q<256)
 (kA:NAt w xA NA) (kB:NAt w xB NB) (kf:NAt w fa fst)
 (a0:w.cell? ⟨p0,0,none⟩=some (.string ⟨bsA.toArray⟩)∧w.cell? ⟨p0,1,none⟩=some (.slice xA NA.length xAc)∧w.cell? ⟨p0,2,none⟩=some (.slice oA OA.length oAc))
 (b0:w.cell? ⟨p2,0,none⟩=some (.string ⟨bsB.toArray⟩)∧w.cell? ⟨p2,1,none⟩=some (.slice xB NB.length xBc)∧w.cell? ⟨p2,2,none⟩=some (.slice oB OB.length oBc))
 (f0:w.cell? ⟨p1,0,none⟩=some (.slice fa fst.length fc)) (l0:p0<w.heap.size) (l1:p1<w.heap.size) (l2:p2<w.heap.size):
 Calls Tryz.prog 57 #[.agg (prV (s1,s2)),.int .i64 (c:Nat),.pointer (some ⟨p0,0,none⟩),.pointer (some ⟨p1,0,none⟩),.pointer (some ⟨p2,0,none⟩)] w fun e w'=>e=.returned (.agg (prV ((dfA bsA NA OA).step s1 q,(dfA bsB NB OB).step s2 q)))∧Below w.heap.size w w':=by
 obtain⟨hc,hcq⟩:=List.getElem?_eq_some_iff.1 hq;obtain⟨fb,fo,rfl,hfb,cf⟩:=kf.get hc;rw[hcq] at cf;have hc':(c:Int)<(fst.length:Int):=by omega
 have qA:q<bsA.length:=by rw[hA.bl];exact hqb
 have qB:q<bsB.length:=by rw[hB.bl];exact hqb
 have X2:Below w.heap.size w ((w.alloc (.cells #[.int .i64 (s1:Int),.int .i64 (s2:Int)] 101)).alloc (.cells #[.int .i64 0,.int .i64 0] 101)):=al (al (Below.refl _ _) _) _;obtain⟨_,B1,B2,hs2⟩:=qap w #[.int .i64 (s1:Int),.int .i64 (s2:Int)] #[.int .i64 0,.int .i64 0] 101 101;obtain⟨w2,hw2⟩:∃w2,w2=(w.alloc (.cells #[.int .i64 (s1:Int),.int .i64 (s2:Int)] 101)).alloc (.cells #[.int .i64 0,.int .i64 0] 101):=⟨_,rfl⟩;rw[←hw2] at X2 B1 B2 hs2;have hAn:=hA.nxl;have hBn:=hB.nxl;obtain⟨uA,huA⟩:∃uA,uA=(dfA bsA NA OA).step s1 q:=⟨_,rfl⟩;obtain⟨uB,huB⟩:∃uB,uB=(dfA bsB NB OB).step s2 q:=⟨_,rfl⟩;have HA:Hid (∀V,Below w2.heap.size w2 V→Calls Tryz.prog 58 #[.agg #[.string ⟨bsA.toArray⟩,.slice xA NA.length xAc,.slice oA OA.length oAc],.int .i64 (s1:Nat),.int .i64 (q:Nat)] V fun e w'=>e=.returned (.int .i64 (uA:Int))∧Below w2.heap.size w2 w'):=fun V x=>by
  have:=qfm xA oA xAc oAc s1 q V hA h1 hqb (kA.below (bt X2 x (Nat.le_refl _)));rw[←huA] at this;exact this.mono fun e w' ⟨h,y⟩=>⟨h,bt x y (Nat.le_refl _)⟩
 have HB:Hid (∀V,Below w2.heap.size w2 V→Calls Tryz.prog 58 #[.agg #[.string ⟨bsB.toArray⟩,.slice xB NB.length xBc,.slice oB OB.length oBc],.int .i64 (s2:Nat),.int .i64 (q:Nat)] V fun e w'=>e=.returned (.int .i64 (uB:Int))∧Below w2.heap.size w2 w'):=fun V x=>by
  have:=qfm xB oB xBc oBc s2 q V hB h2 hqb (kB.below (bt X2 x (Nat.le_refl _)));rw[←huB] at this;exact this.mono fun e w' ⟨h,y⟩=>⟨h,bt x y (Nat.le_refl _)⟩
 have lB:=lt_of_block B1;have HSK:Hid (∀V V',Below w2.heap.size w2 V→Kept (fun i=>i=w.heap.size+1) V V'→(V'.cell? ⟨p0,0,none⟩=some (.string ⟨bsA.toArray⟩)∧V'.cell? ⟨p0,1,none⟩=some (.slice xA NA.length xAc)∧V'.cell? ⟨p0,2,none⟩=some (.slice oA OA.length oAc))∧(V'.cell? ⟨p2,0,none⟩=some (.string ⟨bsB.toArray⟩)∧V'.cell? ⟨p2,1,none⟩=some (.slice xB NB.length xBc)∧V'.cell? ⟨p2,2,none⟩=some (.slice oB OB.length oBc))∧V'.cell? ⟨p1,0,none⟩=some (.slice (some ⟨fb,fo,none⟩) fst.length fc)∧V'.cell? ⟨fb,fo+c,none⟩=some (.int .i64 (q:Int))∧V'.cell? ⟨w.heap.size,0,none⟩=some (.int .i64 (s1:Int))∧V'.cell? ⟨w.heap.size,1,none⟩=some (.int .i64 (s2:Int))):=fun V V' x k=>by
  have y:=bt X2 x (Nat.le_refl _);have kc:∀ {p:Addr},p.block<w.heap.size→V'.cell? p=w.cell? p:=fun {p} hp=>by
   have hp2:p.block<V.heap.size:=Nat.lt_of_lt_of_le hp y.size;exact(k.cell hp2 (by omega)).trans (y.cell hp)
  have Bv:=(k.block _ (Nat.lt_of_lt_of_le lB x.size) (by omega)).trans ((x.block _ lB).trans B1);exact⟨⟨(kc (p:=⟨p0,0,none⟩) l0).trans a0.1,(kc (p:=⟨p0,1,none⟩) l0).trans a0.2.1,(kc (p:=⟨p0,2,none⟩) l0).trans a0.2.2⟩,⟨(kc (p:=⟨p2,0,none⟩) l2).trans b0.1,(kc (p:=⟨p2,1,none⟩) l2).trans b0.2.1,(kc (p:=⟨p2,2,none⟩) l2).trans b0.2.2⟩,(kc (p:=⟨p1,0,none⟩) l1).trans f0,(kc (p:=⟨fb,fo+c,none⟩) hfb).trans cf,by rw[cell_of_row _ _ _ _ _ _ Bv];rfl,by rw[cell_of_row _ _ _ _ _ _ Bv];rfl⟩
 have HS:Hid (∀V,Below w2.heap.size w2 V→(V.cell? ⟨p0,0,none⟩=some (.string ⟨bsA.toArray⟩)∧V.cell? ⟨p0,1,none⟩=some (.slice xA NA.length xAc)∧V.cell? ⟨p0,2,none⟩=some (.slice oA OA.length oAc))∧(V.cell? ⟨p2,0,none⟩=some (.string ⟨bsB.toArray⟩)∧V.cell? ⟨p2,1,none⟩=some (.slice xB NB.length xBc)∧V.cell? ⟨p2,2,none⟩=some (.slice oB OB.length oBc))∧V.cell? ⟨p1,0,none⟩=some (.slice (some ⟨fb,fo,none⟩) fst.length fc)∧V.cell? ⟨fb,fo+c,none⟩=some (.int .i64 (q:Int))∧V.cell? ⟨w.heap.size,0,none⟩=some (.int .i64 (s1:Int))∧V.cell? ⟨w.heap.size,1,none⟩=some (.int .i64 (s2:Int))):=fun V x=>HSK.out V V x (Kept.refl _ _)
 have HST:Hid (∀V u v,Below w2.heap.size w2 V→Kept (fun i=>i=w.heap.size+1) V ((V.setCell ⟨w.heap.size+1,0,none⟩ u).setCell ⟨w.heap.size+1,1,none⟩ v)):=fun V u v x=>Kept.setCell (F:=fun i=>i=w.heap.size+1) (p:=⟨w.heap.size+1,1,none⟩) (Kept.setCell (F:=fun i=>i=w.heap.size+1) (p:=⟨w.heap.size+1,0,none⟩) (Kept.refl _ _) rfl _) rfl _
 have HZC:Hid (∀V,Below w2.heap.size w2 V→V.cell? ⟨w.heap.size+1,0,none⟩=some (.int .i64 0)∧V.cell? ⟨w.heap.size+1,1,none⟩=some (.int .i64 0)∧V.frozen? ⟨w.heap.size+1,0,none⟩=false∧V.frozen? ⟨w.heap.size+1,1,none⟩=false):=fun V x=>by
  have Bv:=(x.block _ (lt_of_block B2)).trans B2;exact⟨by rw[cell_of_row _ _ _ _ _ _ Bv];rfl,by rw[cell_of_row _ _ _ _ _ _ Bv];rfl,frozen_of_row _ _ _ _ _ Bv,frozen_of_row _ _ _ _ _ Bv⟩
 have HPUT:=qaa (fun V x b u v=>put2 (w:=w) V (w.heap.size+1) x b u v (by omega));have HZ:Hid (∀V,Below w2.heap.size w2 V→V.heap[w.heap.size+1]? =some (.cells #[.int .i64 0,.int .i64 0] 101 (0,0))∧Below w.heap.size w V):=fun V x=>⟨(x.block _ (lt_of_block B2)).trans B2,bt X2 x (Nat.le_refl _)⟩
 obtain⟨⟨g0,g1,g2⟩,⟨g3,g4,g5⟩,g6,g7,g8,g9⟩:=HS.out w2 (Below.refl _ _);rw[←huA,←huB];clear B1 B2 X2 a0 b0 f0 l0 l1 l2 huA huB kA kB kf cf hq hcq hA hB;unfold prV;go_enter Tryz.func57,Tryz.ntmps57;go_upto_region 1 with fail
 rw[←hw2];clear hw2;go_region_held3 (fun V=>(V.cell? ⟨p0,0,none⟩=some (.string ⟨bsA.toArray⟩)∧V.cell? ⟨p0,1,none⟩=some (.slice xA NA.length xAc)∧V.cell? ⟨p0,2,none⟩=some (.slice oA OA.length oAc))∧(V.cell? ⟨p2,0,none⟩=some (.string ⟨bsB.toArray⟩)∧V.cell? ⟨p2,1,none⟩=some (.slice xB NB.length xBc)∧V.cell? ⟨p2,2,none⟩=some (.slice oB OB.length oBc))∧V.cell? ⟨p1,0,none⟩=some (.slice (some ⟨fb,fo,none⟩) fst.length fc)∧V.cell? ⟨fb,fo+c,none⟩=some (.int .i64 (q:Int))∧V.cell? ⟨w.heap.size,0,none⟩=some (.int .i64 (s1:Int))∧V.cell? ⟨w.heap.size,1,none⟩=some (.int .i64 (s2:Int))) (first|assumption|exact HS.out _ (Below.refl _ _).drew|exact HS.out _ YA.out|exact HS.out _ YB.out|exact HSK.out _ _ YA.out (HST.out _ _ _ YA.out)|exact HSK.out _ _ YB.out (HST.out _ _ _ YB.out))
  (first
    |(go_at_call_of 58 (Value.slice xA NA.length xAc);(first|(refine(HA.out _ (Below.refl _ _).drew).mono ?_)|(refine(HA.out _ YB.out).mono ?_));rintro e wA ⟨rfl,xA'⟩;have YA:=qaa xA';obtain⟨zA0,zA1,zA2,zA3⟩:=HZC.out wA xA';clear xA')
    |(go_at_call_of 58 (Value.slice xB NB.length xBc);(first|(refine(HB.out _ (Below.refl _ _).drew).mono ?_)|(refine(HB.out _ YA.out).mono ?_));rintro e wB ⟨rfl,xB'⟩;have YB:=qaa xB';obtain⟨zB0,zB1,zB2,zB3⟩:=HZC.out wB xB';clear xB'))
 go_wp2;obtain⟨y1,y2⟩:=HZ.out wB YB.out;obtain⟨z1,_⟩:=HPUT.out wB y2 y1 (uA:Int) (uB:Int);have HI:(Tryz.prog.info? 101).map (·.size)=some (#[Value.int .i64 (uA:Int),Value.int .i64 (uB:Int)]:Array Value).size:=by rw[(zero_of_info Tryz.info101).2];rfl
 have hb:=y2.trans ((HST.out wB (.int .i64 (uA:Int)) (.int .i64 (uB:Int)) YB.out).below y2.size (fun i hi=>by omega));refine bodyPost_ret (v:=.agg #[.int .i64 (uA:Int),.int .i64 (uB:Int)]) (results_cell_row rfl _ _ (w.heap.size+1) 101 #[.int .i64 (uA:Int),.int .i64 (uB:Int)] (0,0) _ rfl z1 Tryz.underlying101 rfl HI) rfl ?_;exact⟨rfl,hb⟩
theorem Tryz.info73:(Tryz.prog.info? 73).map (fun i=>(i.zero,i.size))=some (some (.agg (Array.replicate 64 (Value.bool false))),64):=by kernel_rfl
set_option maxRecDepth 100000 in
set_option maxHeartbeats 4000000 in
theorem qk7 (N:Nat) (c0:Value) (look:Nat→Array Value) (lit:Nat→Lit) (w:World) (hN:N≤4294967296) (hk:∀i,i<N→keyOf Tryz.prog 73 (.agg (look i))=some (lit i)) (hls:∀i,i<N→(look i).size=64) (hla:∀i,i<N→(look i).all (·.oneCell')=true) (hkl:∀i,i<N→WideAt.IsKeyLit (lit i))
 (hc:∀i,i<N→∀W,Below w.heap.size w W→Calls Tryz.prog 43 #[.int .i64 (i:Nat),c0] W fun e w'=>e=.returned (.agg (look i))∧Below W.heap.size W w'):
 Calls Tryz.prog 42 #[.int .i64 (N:Nat),.func (.func 43) #[] #[c0]] w fun e w'=>(∃v1 v2,e=.returned (.tuple #[v1,v2])∧∃num fst,qbd w.heap.size lit N v1 v2 num fst w')∧Below w.heap.size w w':=by
 obtain⟨i3,hi3,hz30,hz31,hz32⟩:=info_parts Tryz.info3n;have hz0:∀W,(zeroValue 3).run Tryz.prog W=.ok (.int .i64 0) W:=fun W=>Tryz.zeroValue3 W
 have hmm:∀W:World,(Instr.makeMap 133 none).run Tryz.prog W=.ok (.map (some W.heap.size)) (W.alloc (.map #[] 0)):=fun W=>rfl
 have HC:=qaa hc;have HK:=qaa hk;have HKL:=qaa hkl;have HLS:=qaa hls;have HLA:=qaa hla;obtain⟨hzv,hsz⟩:=zero_of_info Tryz.info73;obtain⟨z,hz⟩:∃z,z=(Array.replicate 64 (Value.bool false)):=⟨_,rfl⟩;have hzs:z.size=64:=by rw[hz];simp
 rw[←hz] at hzv;have HZS:=qaa hzs;have HSZ:=qaa hsz;clear hz hzs hsz hls hla;clear hc hk hkl;have S0:=qaa (fun w2 h1 h2=>NmS.start 73 w lit N w2 h1 h2);go_enter Tryz.func42,Tryz.ntmps42;go_wp2_with (at_make;refine wpList_make_full _ rfl (.tmp 12) (.tmp 12) 22 rfl w.heap.size 3 i3 (.int .i64 0) 1 Tryz.underlying22 hi3 hz30 hz31 .i64 .i64 _ _ N rfl rfl rfl rfl (by rw[hz32];omega) (by unfold maxLen;omega) (by simp) ?_;intro w2 h1 h2;have S1:=qaa (S0.out w2 h1 h2);clear h1 h2);go_loopg [5,15] (N+1) (fun g v2 x wr=>∃(num fst:List Nat),x=.int .i64 (num.length:Nat)∧Hid (NmS 73 w lit N w.heap.size (.slice (some ⟨w.heap.size+1,0,none⟩) N N) v2 num fst wr)∧N-num.length<g)
 case atStart=>exact⟨[],[],rfl,S1,by simp⟩
 case round=>
  obtain⟨num,fst,rfl,S,hg⟩:=hrel;have HG:=qaa hg;clear hg S1 S0;have hle:=S.out.le;obtain⟨a2,k2,hv2,_⟩:=qag S.out.o2;subst hv2;by_cases hi:num.length<N
  ·have hi':(num.length:Int)<(N:Int):=by omega
   have H1:=qaa (HC.out num.length hi wr S.out.bel);go_wp2_with (fail);refine H1.out.mono ?_;rintro e w3 ⟨rfl,x3⟩;clear H1;obtain⟨m,hmm2⟩:∃m,m=look num.length:=⟨_,rfl⟩;have HI:Hid ((Tryz.prog.info? 73).map (·.size)=some m.size):=by unfold Hid;rw[HSZ.out,hmm2,HLS.out _ hi]
   have HZ2:Hid (z.size=m.size):=by unfold Hid;rw[HZS.out,hmm2,HLS.out _ hi]
   have HAL:Hid (m.all (·.oneCell')=true):=by unfold Hid;rw[hmm2];exact HLA.out _ hi
   have HK0:=HK.out num.length hi;rw[←hmm2] at HK0 ⊢;have HBZ:=qaa (heap_alloc_new w3 (.cells z 73));have HBM:=heap_alloc_new w3 (.cells m 73);have y3:Below w3.heap.size w3 (w3.alloc (.cells m 73)):=al (Below.refl _ _) _;have S4:=S.out.below (bt x3 y3 (Nat.le_refl _));have bb3:∃bb,bb=w3.heap.size:=⟨_,rfl⟩;clear hmm2 x3 y3;go_upto_region 7 with(refine wpList_store_row rfl 73 (.tmp 8) (.tmp 20) rfl w3.heap.size m rfl rfl 73 z HBZ.out HI.out HZ2.out HAL.out ?_;rw[World.setRow_alloc_new])
   generalize w3.alloc (.cells m 73)=w5 at *;obtain⟨bb,hbb⟩:=bb3;rw[←hbb] at HBM ⊢;clear hbb HBZ;have HBM:=qaa HBM;rename World=>w3
   have S3:=qaa S4;clear S4;obtain⟨D,hown,hh,ha⟩:=S3.out.map;have HK1:=qaa HK0;clear HK0;have HOWN:=qaa hown;have HA:=qaa ha;have hfl:fst.length≤num.length:=by
    have h:=S3.out.nf;exact qax num.length fst.length (gN fst) h.fstlt (fun i h1 j h2 e=>by rw[←h.numfst i h1,←h.numfst j h2,e])
   by_cases hm:lit num.length∈fst.map lit
   ·have hhas:Maps.has D (lit num.length)=true:=(hh _).2 hm
    have HHIT:Hid (∀c:Int,D.atKey (lit num.length) (.lit (.int .i64 0))=.lit (.int .i64 c)→∃n,n<fst.length∧lit (gN fst n)=lit num.length∧c=(n:Int)):=fun c hc=>by
     obtain⟨n,hn,e,rfl⟩:=qbz HA.out hc hm;rw[List.length_map] at hn;refine⟨n,hn,?_,rfl⟩;rw[←e,List.getElem_map,qah hn]
    obtain⟨⟨u1,q1⟩,q2⟩:=S3.out.slot hi;have HST:=qaa (fun n hn he=>S3.out.hit (n:=n) hi hn he);go_wp2_with (first|(refine wpList_load_row rfl 73 (.tmp 8) rfl bb rfl 73 m (0,0) _ HBM.out Tryz.underlying73 rfl HI.out ?_)|(at_lookup;refine wpList_lookup_own_ok_int _ rfl _ _ 133 rfl 73 3 .i64 qdz Tryz.underlying133 Tryz.underlying3 (hz0 _) w.heap.size _ D rfl HOWN.out _ _ rfl HK1.out ?_;intro c hat hwc;obtain⟨n,hn,hne,rfl⟩:=HHIT.out c hat;have S4:=qaa (HST.out n hn hne);clear hat hwc hn hne));go_roundg (N-(num.length+1)+1)
    case measure=>have:=HG.out;omega
    case rel=>exact⟨num++[n],fst,by simp,S4,by simp⟩
   ·have hhas:Maps.has D (lit num.length)=false:=by
     cases hx:Maps.has D (lit num.length) with
     |false=>rfl
     |true=>exact absurd ((hh _).1 hx) hm
    have HPL:Hid (plainElem (H:=Unit) Tryz.prog 3 (.int .i64 (fst.length:Int))=some (.lit (.int .i64 (fst.length:Int)),[])):=plainElem_int Tryz.underlying3 (by simp[Lit.wf,IntKind.min,IntKind.max,IntKind.signed,IntKind.bits];omega);have HFN:Hid ((fst.map lit).length<maxLen):=by unfold Hid maxLen;rw[List.length_map];omega
    have HPUT:=qaa (fun(w4:World) h1 (t4:w3.mapTurned w4 w.heap.size)=>S3.out.put (w':=w4) hm (HKL.out _ hi) hh ha HOWN.out h1 t4);go_wp2_with (first
     |(refine wpList_load_row rfl 73 (.tmp 8) rfl bb rfl 73 m (0,0) _ HBM.out Tryz.underlying73 rfl HI.out ?_)
     |(at_lookup;refine wpList_lookup_own_ok_int _ rfl _ _ 133 rfl 73 3 .i64 qdz Tryz.underlying133 Tryz.underlying3 (hz0 _) w.heap.size _ D rfl HOWN.out _ _ rfl HK1.out ?_;intro c hat hwc;clear hat hwc)
     |(at_mapUpdate;refine wpList_mapUpdate_in _ rfl _ _ _ 133 rfl 73 3 qdz Tryz.underlying133 _ w.heap.size _ D rfl HOWN.out HFN.out _ _ _ rfl rfl HK1.out _ [] HPL.out ?_;intro w4 h4 t4;have S4:=qaa (HPUT.out w4 h4 t4);have O5:=qaa S4.out.o5;have HN5:=qaa (qbi w4 num.length 3);have HS5:Hid (w.heap.size≤(w4.alloc (.cells #[.int .i64 (num.length:Nat)] 3)).heap.size):=S4.out.s5;clear h4 t4)
     |(at_builtin;refine qac rfl (.tmp 34) (.tmp 36) 22 rfl w.heap.size 3 i3 (.int .i64 0) 1 8 Tryz.underlying22 hi3 hz30 hz31 hz32 rfl (by decide) _ fst.length (qab fst) rfl O5.out ⟨w4.heap.size,0,none⟩ 1 1 [.int .i64 (num.length:Nat)] rfl rfl HN5.out (by simp[Value.oneCell']) (by decide) (by unfold maxLen;omega) (by omega) HS5.out ?_;intro v6 w6 g1 g2;obtain⟨⟨⟨u6,q1⟩,q2⟩,S6⟩:=S4.out.app hi g1 g2;have S6:=qaa S6;clear g1 g2))
    go_roundg (N-(num.length+1)+1)
    case measure=>have:=HG.out;omega
    case rel=>exact⟨num++[fst.length],fst++[num.length],by simp,S6,by simp⟩
  ·have hi':¬(num.length:Int)<(N:Int):=by omega
   go_wp2;go_ret2;refine⟨⟨_,_,rfl,num,fst,?_⟩,S.out.bel⟩;have e:num.length=N:=by omega
   have h1:=S.out.o1;rw[e,Nat.sub_self,List.replicate_zero,List.append_nil] at h1;exact⟨h1,S.out.o2,S.out.ap,e,by have:=S.out.nf;rw[e] at this;exact this⟩
section
variable {P:Program}
theorem qcv (w:World) (p:Addr) (ty:TypeId) (cs:Array Value) (d:TypeDesc) (hc:∀j v,cs[j]? =some v→w.cell? (p.add j)=some v)
 (hu:P.underlying ty=some d) (hd:(match d with|.struct _|.array _ _=>true|_=>false)=true) (hi:(P.info? ty).map (·.size)=some cs.size):
 (loadVar ty p).run P w=.ok (.agg cs) w:=by
 have hl:(loadCells p cs.toList.length).run P w=.ok cs.toList.toArray w:=
  run_loadCells_list (P:=P) w p cs.toList (fun j v hv=>hc j v (by simpa using hv))
 cases hq:P.info? ty with
 |none=>simp[hq] at hi
 |some i=>
  have hs:i.size=cs.size:=by simpa [hq] using hi
  have hagg:(isAgg ty).run P w=.ok true w:=by
   unfold isAgg;rw[Sem.run_bind,run_underlying hu w];cases d<;>simp_all
  simp only[Array.length_toList,Array.toArray_toList] at hl;simp[loadVar,Sem.run_bind,hagg,sizeOf,typeInfo,hq,hs,hl]
theorem qbr {ops:Array Oper} {rest:List Oper} {o:Oper} {a:Act} {w:World} {Q:Exit→Act→World→Prop} (hgd:o.guard=none) (ty:TypeId) (x:Operand) (ho:o.op=.load ty x)
 (p:Addr) (hx:a.eval x=.pointer (some p)) (cs:Array Value) (d:TypeDesc) (hc:∀j v,cs[j]? =some v→w.cell? (p.add j)=some v)
 (hu:P.underlying ty=some d) (hd:(match d with|.struct _|.array _ _=>true|_=>false)=true) (hi:(P.info? ty).map (·.size)=some cs.size)
 (h:wpList P ops Q rest (a.put o.dst (.agg cs)) w):wpList P ops Q (o::rest) a w:=
 wpList_plain hgd fun _ hK=>by
  unfold Oper.wp execOp;simp only[ho,hx,Instr.loadAt,Instr.sureAddr,Sem.run_bind,Sem.run_pure,Result.andThen_ok,qcv w p ty cs d hc hu hd hi];exact hK _ _ h
theorem qcg {H:Type} {ops:Array Oper} {rest:List Oper} {o:Oper} {a:Act} {w:World} {Q:Exit→Act→World→Prop} (hg:o.guard=none) (m x v:Operand) (t:TypeId) (hop:o.op=Op.insert t m x v)
 (k e:TypeId) (K:Keyed P k) (ht:P.underlying t=some (.map k e)) (R:Value→Option (DataW H×List MemPlace)) (b n:Nat) (D:DataW H)
 (hm:a.eval m=.map (some b)) (hown:w.ownsMap P k R b n D) (hn:n<maxLen) (key val:Value) (kl:Lit) (hx:a.eval x=key) (hv:a.eval v=val) (hkey:keyOf P k key=some kl)
 (d:DataW H) (ps:List MemPlace) (hval:R val=some (d,ps))
 (hK:∀w',w'.ownsMap P k R b (n+1) (D.put kl d)→w.mapTurned w' b→wpList P ops Q rest (a.put o.dst undef) w'):
 wpList P ops Q (o::rest) a w:=by
 refine wpList_plain hg fun K' hK'=>?_
 obtain⟨w',hrun,r1,r2⟩:=hown.store K ht hn hkey hval;unfold Oper.wp;simp[execOp,hop,hm,hx,hv,hrun,Result.andThen];exact hK' _ _ (hK w' r1 r2)
theorem qa7 {ops:Array Oper} {rest:List Oper} {o:Oper} {a:Act} {w:World} {Q:Exit→Act→World→Prop} (hg:o.guard=none) (t e:TypeId) (x:Operand) (ho:o.op=.buildSlice t 1 #[(0,x)])
 (cs:Array Value) (hx:a.eval x=.agg cs) (ie:TypeInfo) (z:Value) (hu:P.underlying t=some (.slice e)) (hie:P.info? e=some ie) (hz:ie.zero=some z) (hsz:ie.size=cs.size) (h0:0<cs.size) (hsm:cs.size≤2^24)
 (h:wpList P ops Q rest (a.put o.dst (.slice (some ⟨w.heap.size,0,none⟩) 1 1)) (w.alloc (.cells cs e))):wpList P ops Q (o::rest) a w:=by
 obtain⟨r,hr,hrs,hrk⟩:=Great.fill_dense (s:=cs.size) h0 [.agg cs] 0 ((Array.range (1*ie.size)).map (z.cells[· %z.cells.size]!)) (fun v hv=>by rw[List.mem_singleton.1 hv];rfl) (by simp[hsz]);have e:r=cs:=by
  apply Array.ext
  ·rw[hrs];simp[hsz]
  ·intro k h1 h2
   have:=hrk k;rw[if_pos ⟨by omega,by simp;exact h2⟩] at this;rw[Array.getElem?_eq_getElem h1,Nat.div_eq_of_lt h2,Nat.mod_eq_of_lt h2] at this;simpa [Value.cells,h2] using this
 subst e;refine wpList_buildSlice hg t e 1 _ ho r ie z hu hie hz (by rw[hsz];omega) (by rw[hsz];omega) ?_ h;rw[hsz] at hr ⊢;rw[←hr];simp[hx]
end
end Go.Proofs.YtdgoilkgplnhfaaGreat
namespace Go.Proofs.YtdgoilkgplnhfaaGreat
def gS {S:Type} (z:S) (St:List S) (a:Nat):S:=St.getD a z
section
variable {S:Type} {z:S}
theorem qb2 {St:List S} {a:Nat} (h:a<St.length):gS z St a=St[a]:=by unfold gS;simp[List.getD_eq_getElem?_getD,h]
theorem qev {St:List S} {x:S} {a:Nat} (h:a<St.length):gS z (St++[x]) a=gS z St a:=by unfold gS;simp[List.getD_eq_getElem?_getD,List.getElem?_append_left h]
theorem qdf (St:List S) (x:S):gS z (St++[x]) St.length=x:=by unfold gS;simp[List.getD_eq_getElem?_getD]
end
structure ExS {S:Type} (z:S) (fo:S→Nat→S) (M:Nat) (St:List S) (NX:List Nat) (i j:Nat):Prop where
 s0:0<St.length∧gS z St 0=z
 nd:∀a,a<St.length→∀b,b<St.length→gS z St a=gS z St b→a=b
 rch:∀a,a<St.length→∃u:List Nat,(∀c∈u,c<M)∧u.foldl fo z=gS z St a
 len:NX.length=i*M+j
 jl:j≤M
 il:i≤St.length
 nxt:∀q,q<NX.length→gN NX q<St.length∧gS z St (gN NX q)=fo (gS z St (q/M)) (q%M)
section
variable {S:Type} {z:S} {fo:S→Nat→S} {M:Nat} {St:List S} {NX:List Nat} {i j:Nat}
theorem ExS.start:ExS z fo M [z] [] 0 0:=by
 refine⟨⟨by simp,rfl⟩,fun a ha b hb _=>by simp at ha hb;omega,fun a ha=>⟨[],fun c hc=>(List.not_mem_nil hc).elim,?_⟩,by simp,by omega,by omega,fun q hq=>by simp at hq⟩;have:a=0:=by simp at ha;omega
 subst this;rfl
theorem ExS.old (h:ExS z fo M St NX i j) (hj:j<M) {v:Nat} (hv:v<St.length) (he:gS z St v=fo (gS z St i) j):ExS z fo M St (NX++[v]) i (j+1):=by
 have hl:(NX++[v]).length=NX.length+1:=by simp
 have hd:=qbt (i:=i) hj;rw[←h.len] at hd;refine⟨h.s0,h.nd,h.rch,by rw[hl,h.len];omega,hj,h.il,fun q hq=>?_⟩;by_cases h2:q<NX.length
 ·rw[qau h2];exact h.nxt q h2
 ·obtain rfl:q=NX.length:=by omega
  rw[qat,hd.1,hd.2];exact⟨hv,he⟩
theorem ExS.add (h:ExS z fo M St NX i j) (hi:i<St.length) (hj:j<M) {x:S} (hne:∀a,a<St.length→gS z St a≠x) (he:x=fo (gS z St i) j):ExS z fo M (St++[x]) NX i j:=by
 have hls:(St++[x]).length=St.length+1:=by simp
 have gl:∀a,a<St.length→gS z (St++[x]) a=gS z St a:=fun a ha=>qev ha
 have hrow:∀q,q<NX.length→q/M<St.length:=fun q hq=>by
  have:q/M≤i:=by
   have h1:q≤i*M+j:=by have:=h.len;omega
   have h2:=Nat.div_le_div_right (c:=M) h1;rw[(qbt (i:=i) hj).1] at h2;exact h2
  omega
 refine⟨⟨by omega,by rw[gl 0 h.s0.1];exact h.s0.2⟩,fun a ha b hb e=>?_,fun a ha=>?_,h.len,h.jl,by have:=h.il;omega,fun q hq=>?_⟩
 ·by_cases h1:a<St.length
  ·by_cases h2:b<St.length
   ·rw[gl a h1,gl b h2] at e;exact h.nd a h1 b h2 e
   ·obtain rfl:b=St.length:=by omega
    rw[gl a h1,qdf] at e;exact absurd e (hne a h1)
  ·obtain rfl:a=St.length:=by omega
   by_cases h2:b<St.length
   ·rw[gl b h2,qdf] at e;exact absurd e.symm (hne b h2)
   ·omega
 ·by_cases h1:a<St.length
  ·rw[gl a h1];exact h.rch a h1
  ·obtain rfl:a=St.length:=by omega
   obtain⟨u,h2,h3⟩:=h.rch i hi;refine⟨u++[j],fun c hc=>?_,?_⟩
   ·rcases List.mem_append.1 hc with hc|hc
    ·exact h2 c hc
    ·rw[List.mem_singleton.1 hc];exact hj
   ·rw[List.foldl_append,h3,qdf,he];rfl
 ·obtain⟨k1,k2⟩:=h.nxt q hq
  exact⟨by omega,by rw[gl _ k1,gl _ (hrow q hq)];exact k2⟩
theorem ExS.new (h:ExS z fo M St NX i j) (hi:i<St.length) (hj:j<M) {x:S} (hne:∀a,a<St.length→gS z St a≠x) (he:x=fo (gS z St i) j):ExS z fo M (St++[x]) (NX++[St.length]) i (j+1):=
 (h.add hi hj hne he).old hj (by simp) (by rw[qdf,qev hi,he])
theorem ExS.row (h:ExS z fo M St NX i j) (hi:i<St.length) (hj:¬j<M):ExS z fo M St NX (i+1) 0:=by
 have:j=M:=by have:=h.jl;omega
 refine⟨h.s0,h.nd,h.rch,by rw[h.len,Nat.succ_mul,this];omega,by omega,hi,h.nxt⟩
end
structure ExD {S:Type} (z:S) (fo:S→Nat→S) (M:Nat) (St:List S) (NX:List Nat):Prop where
 s0:0<St.length∧gS z St 0=z
 nd:∀a,a<St.length→∀b,b<St.length→gS z St a=gS z St b→a=b
 rch:∀a,a<St.length→∃u:List Nat,(∀c∈u,c<M)∧u.foldl fo z=gS z St a
 len:NX.length=St.length*M
 nxt:∀s,s<St.length→∀c,c<M→gN NX (s*M+c)<St.length∧gS z St (gN NX (s*M+c))=fo (gS z St s) c
def qeh {S:Type} (z:S) (fo:S→Nat→S) (M:Nat):Prop:=∃St:List S,St.length=257∧(∀a,a<St.length→∀b,b<St.length→gS z St a=gS z St b→a=b)∧∀a,a<St.length→∃u:List Nat,(∀c∈u,c<M)∧u.foldl fo z=gS z St a
section
variable {S:Type} {z:S} {fo:S→Nat→S} {M:Nat} {St:List S} {NX:List Nat} {i j:Nat}
theorem ExS.done (h:ExS z fo M St NX i 0) (hi:¬i<St.length):ExD z fo M St NX:=by
 have e:i=St.length:=by have:=h.il;omega
 refine⟨h.s0,h.nd,h.rch,by rw[h.len,e];omega,fun s hs c hc=>?_⟩;have hq:s*M+c<NX.length:=by
  rw[h.len,e];have:=qcd hs hc;omega
 have:=h.nxt _ hq;rw[(qbt (i:=s) hc).1,(qbt (i:=s) hc).2] at this;exact this
theorem ExS.many (h:ExS z fo M St NX i j) (hl:St.length=257):qeh z fo M:=⟨St,hl,h.nd,h.rch⟩
end
section
variable {S:Type} {z:S} {fo:S→Nat→S} {M:Nat} {St:List S} {NX OU:List Nat} {bs:By}
theorem ExD.run (h:ExD z fo M St NX) (hM:0<M) (ho:OU.length=St.length) (hb:∀b,b<256→(bs.getD b 0).toNat<M):∀ {t:List Nat} {s:Nat},s<St.length→Txt t→(dfA bs NX OU).run s t<St.length∧gS z St ((dfA bs NX OU).run s t)=t.foldl (fun x b=>fo x (bs.getD b 0).toNat) (gS z St s)
 |[],s,hs,_=>⟨hs,rfl⟩
 |b::t,s,hs,ht=>by
  have hW:NX.length/OU.length=M:=by rw[h.len,ho,Nat.mul_comm];exact Nat.mul_div_cancel _ h.s0.1
  obtain⟨k1,k2⟩:=h.nxt s hs _ (hb b ht.tail.1);have e:(dfA bs NX OU).step s b=gN NX (s*M+(bs.getD b 0).toNat):=by
   show gN NX (s*(NX.length/OU.length)+(bs.getD b 0).toNat)=_;rw[hW]
  have:=ExD.run h hM ho hb (t:=t) (s:=(dfA bs NX OU).step s b) (by rw[e];exact k1) ht.tail.2;rw[DF.run_cons];refine⟨this.1,?_⟩;rw[this.2,e,k2];rfl
theorem ExD.may (h:ExD z fo M St NX) (hM:0<M) (hM2:M≤256) (ho:OU.length=St.length) (hn:St.length≤65536) (hbl:bs.length=256) (hb:∀b,b<256→(bs.getD b 0).toNat<M) (hlb:∀x∈OU,x≤65535):qbv bs NX OU:=by
 have hW:NX.length/OU.length=M:=by rw[h.len,ho,Nat.mul_comm];exact Nat.mul_div_cancel _ h.s0.1
 refine⟨hbl,by rw[ho];exact h.s0.1,by rw[ho];exact hn,by rw[hW,ho,h.len],by rw[hW];exact hb,by rw[hW];exact hM2,fun x hx=>?_,hlb⟩;obtain⟨q,hq,rfl⟩:=List.getElem_of_mem hx;have h0:q/M<St.length:=by
  have:=h.len;exact Nat.div_lt_of_lt_mul (by rw[Nat.mul_comm];omega)
 have:=(h.nxt (q/M) h0 (q%M) (Nat.mod_lt _ hM)).1;rw[Nat.mul_comm,Nat.div_add_mod,qah hq] at this;rw[ho];exact this
end
end Go.Proofs.YtdgoilkgplnhfaaGreat

