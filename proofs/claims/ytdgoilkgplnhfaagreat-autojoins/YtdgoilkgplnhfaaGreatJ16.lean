/-
  Things numbered by looks that are structs of bytes. Condition: at most 2^32 things.
-/
import Derived.Deep.WholeRow
import Derived.Laws.CopyOwn
import Derived.Test.YtdgoilkgplnhfaaGreatJ13
import Derived.Test.YtdgoilkgplnhfaaGreatJ09
namespace Go.Proofs.YtdgoilkgplnhfaaGreat
open Go.RowKit Go.Lib Go.Maps
theorem Tryz.info169:(Tryz.prog.info? 169).map (fun i=>(i.zero,i.size))=some (some (.agg (Array.replicate 256 (Value.int .u8 0))),256):=by kernel_rfl
set_option maxRecDepth 100000 in
set_option maxHeartbeats 4000000 in
theorem qlc (N:Nat) (c0 c1:Value) (look:Nat→Array Value) (lit:Nat→Lit) (w:World) (hN:N≤4294967296) (hk:∀i,i<N→keyOf Tryz.prog 169 (.agg (look i))=some (lit i)) (hls:∀i,i<N→(look i).size=256) (hla:∀i,i<N→(look i).all (·.oneCell')=true) (hkl:∀i,i<N→WideAt.IsKeyLit (lit i))
 (hc:∀i,i<N→∀W,Below w.heap.size w W→Calls Tryz.prog 119 #[.int .i64 (i:Nat),c0,c1] W fun e w'=>e=.returned (.agg (look i))∧Below W.heap.size W w'):
 Calls Tryz.prog 118 #[.int .i64 (N:Nat),.func (.func 119) #[] #[c0,c1]] w fun e w'=>(∃v1 v2,e=.returned (.tuple #[v1,v2])∧∃num fst,qbd w.heap.size lit N v1 v2 num fst w')∧Below w.heap.size w w':=by
 obtain⟨i3,hi3,hz30,hz31,hz32⟩:=info_parts Tryz.info3n;have hz0:∀W,(zeroValue 3).run Tryz.prog W=.ok (.int .i64 0) W:=fun W=>Tryz.zeroValue3 W
 have hmm:∀W:World,(Instr.makeMap 191 none).run Tryz.prog W=.ok (.map (some W.heap.size)) (W.alloc (.map #[] 0)):=fun W=>rfl
 have HC:=qaa hc;have HK:=qaa hk;have HKL:=qaa hkl;have HLS:=qaa hls;have HLA:=qaa hla;obtain⟨hzv,hsz⟩:=zero_of_info Tryz.info169;obtain⟨z,hz⟩:∃z,z=(Array.replicate 256 (Value.int .u8 0)):=⟨_,rfl⟩;have hzs:z.size=256:=by rw[hz];simp
 rw[←hz] at hzv;have HZS:=qaa hzs;have HSZ:=qaa hsz;clear hz hzs hsz hls hla;clear hc hk hkl;have S0:=qaa (fun w2 h1 h2=>NmS.start 169 w lit N w2 h1 h2);go_enter Tryz.func118,Tryz.ntmps118;go_wp2_with (at_make;refine wpList_make_full _ rfl (.tmp 12) (.tmp 12) 22 rfl w.heap.size 3 i3 (.int .i64 0) 1 Tryz.underlying22 hi3 hz30 hz31 .i64 .i64 _ _ N rfl rfl rfl rfl (by rw[hz32];omega) (by unfold maxLen;omega) (by simp) ?_;intro w2 h1 h2;have S1:=qaa (S0.out w2 h1 h2);clear h1 h2);go_loopg [5,15] (N+1) (fun g v2 x wr=>∃(num fst:List Nat),x=.int .i64 (num.length:Nat)∧Hid (NmS 169 w lit N w.heap.size (.slice (some ⟨w.heap.size+1,0,none⟩) N N) v2 num fst wr)∧N-num.length<g)
 case atStart=>exact⟨[],[],rfl,S1,by simp⟩
 case round=>
  obtain⟨num,fst,rfl,S,hg⟩:=hrel;have HG:=qaa hg;clear hg S1 S0;have hle:=S.out.le;obtain⟨a2,k2,hv2,_⟩:=qag S.out.o2;subst hv2;by_cases hi:num.length<N
  ·have hi':(num.length:Int)<(N:Int):=by omega
   have H1:=qaa (HC.out num.length hi wr S.out.bel);go_wp2_with (fail);refine H1.out.mono ?_;rintro e w3 ⟨rfl,x3⟩;clear H1;obtain⟨m,hmm2⟩:∃m,m=look num.length:=⟨_,rfl⟩;have HI:Hid ((Tryz.prog.info? 169).map (·.size)=some m.size):=by unfold Hid;rw[HSZ.out,hmm2,HLS.out _ hi]
   have HZ2:Hid (z.size=m.size):=by unfold Hid;rw[HZS.out,hmm2,HLS.out _ hi]
   have HAL:Hid (m.all (·.oneCell')=true):=by unfold Hid;rw[hmm2];exact HLA.out _ hi
   have HK0:=HK.out num.length hi;rw[←hmm2] at HK0 ⊢;have HBZ:=qaa (heap_alloc_new w3 (.cells z 169));have HBM:=heap_alloc_new w3 (.cells m 169);have y3:Below w3.heap.size w3 (w3.alloc (.cells m 169)):=al (Below.refl _ _) _;have S4:=S.out.below (bt x3 y3 (Nat.le_refl _));have bb3:∃bb,bb=w3.heap.size:=⟨_,rfl⟩;clear hmm2 x3 y3;go_upto_region 7 with(refine wpList_store_row rfl 169 (.tmp 8) (.tmp 20) rfl w3.heap.size m rfl rfl 169 z HBZ.out HI.out HZ2.out HAL.out ?_;rw[World.setRow_alloc_new])
   generalize w3.alloc (.cells m 169)=w5 at *;obtain⟨bb,hbb⟩:=bb3;rw[←hbb] at HBM ⊢;clear hbb HBZ;have HBM:=qaa HBM;rename World=>w3
   have S3:=qaa S4;clear S4;obtain⟨D,hown,hh,ha⟩:=S3.out.map;have HK1:=qaa HK0;clear HK0;have HOWN:=qaa hown;have HA:=qaa ha;have hfl:fst.length≤num.length:=by
    have h:=S3.out.nf;exact qax num.length fst.length (gN fst) h.fstlt (fun i h1 j h2 e=>by rw[←h.numfst i h1,←h.numfst j h2,e])
   by_cases hm:lit num.length∈fst.map lit
   ·have hhas:Maps.has D (lit num.length)=true:=(hh _).2 hm
    have HHIT:Hid (∀c:Int,D.atKey (lit num.length) (.lit (.int .i64 0))=.lit (.int .i64 c)→∃n,n<fst.length∧lit (gN fst n)=lit num.length∧c=(n:Int)):=fun c hc=>by
     obtain⟨n,hn,e,rfl⟩:=qbz HA.out hc hm;rw[List.length_map] at hn;refine⟨n,hn,?_,rfl⟩;rw[←e,List.getElem_map,qah hn]
    obtain⟨⟨u1,q1⟩,q2⟩:=S3.out.slot hi;have HST:=qaa (fun n hn he=>S3.out.hit (n:=n) hi hn he);go_wp2_with (first|(refine wpList_load_row rfl 169 (.tmp 8) rfl bb rfl 169 m (0,0) _ HBM.out Tryz.underlying169 rfl HI.out ?_)|(at_lookup;refine wpList_lookup_own_ok_int _ rfl _ _ 191 rfl 169 3 .i64 qc9 Tryz.underlying191 Tryz.underlying3 (hz0 _) w.heap.size _ D rfl HOWN.out _ _ rfl HK1.out ?_;intro c hat hwc;obtain⟨n,hn,hne,rfl⟩:=HHIT.out c hat;have S4:=qaa (HST.out n hn hne);clear hat hwc hn hne));go_roundg (N-(num.length+1)+1)
    case measure=>have:=HG.out;omega
    case rel=>exact⟨num++[n],fst,by simp,S4,by simp⟩
   ·have hhas:Maps.has D (lit num.length)=false:=by
     cases hx:Maps.has D (lit num.length) with
     |false=>rfl
     |true=>exact absurd ((hh _).1 hx) hm
    have HPL:Hid (plainElem (H:=Unit) Tryz.prog 3 (.int .i64 (fst.length:Int))=some (.lit (.int .i64 (fst.length:Int)),[])):=plainElem_int Tryz.underlying3 (by simp[Lit.wf,IntKind.min,IntKind.max,IntKind.signed,IntKind.bits];omega);have HFN:Hid ((fst.map lit).length<maxLen):=by unfold Hid maxLen;rw[List.length_map];omega
    have HPUT:=qaa (fun(w4:World) h1 (t4:w3.mapTurned w4 w.heap.size)=>S3.out.put (w':=w4) hm (HKL.out _ hi) hh ha HOWN.out h1 t4);go_wp2_with (first
     |(refine wpList_load_row rfl 169 (.tmp 8) rfl bb rfl 169 m (0,0) _ HBM.out Tryz.underlying169 rfl HI.out ?_)
     |(at_lookup;refine wpList_lookup_own_ok_int _ rfl _ _ 191 rfl 169 3 .i64 qc9 Tryz.underlying191 Tryz.underlying3 (hz0 _) w.heap.size _ D rfl HOWN.out _ _ rfl HK1.out ?_;intro c hat hwc;clear hat hwc)
     |(at_mapUpdate;refine wpList_mapUpdate_in _ rfl _ _ _ 191 rfl 169 3 qc9 Tryz.underlying191 _ w.heap.size _ D rfl HOWN.out HFN.out _ _ _ rfl rfl HK1.out _ [] HPL.out ?_;intro w4 h4 t4;have S4:=qaa (HPUT.out w4 h4 t4);have O5:=qaa S4.out.o5;have HN5:=qaa (qbi w4 num.length 3);have HS5:Hid (w.heap.size≤(w4.alloc (.cells #[.int .i64 (num.length:Nat)] 3)).heap.size):=S4.out.s5;clear h4 t4)
     |(at_builtin;refine qac rfl (.tmp 34) (.tmp 36) 22 rfl w.heap.size 3 i3 (.int .i64 0) 1 8 Tryz.underlying22 hi3 hz30 hz31 hz32 rfl (by decide) _ fst.length (qab fst) rfl O5.out ⟨w4.heap.size,0,none⟩ 1 1 [.int .i64 (num.length:Nat)] rfl rfl HN5.out (by simp[Value.oneCell']) (by decide) (by unfold maxLen;omega) (by omega) HS5.out ?_;intro v6 w6 g1 g2;obtain⟨⟨⟨u6,q1⟩,q2⟩,S6⟩:=S4.out.app hi g1 g2;have S6:=qaa S6;clear g1 g2))
    go_roundg (N-(num.length+1)+1)
    case measure=>have:=HG.out;omega
    case rel=>exact⟨num++[fst.length],fst++[num.length],by simp,S6,by simp⟩
  ·have hi':¬(num.length:Int)<(N:Int):=by omega
   go_wp2;go_ret2;refine⟨⟨_,_,rfl,num,fst,?_⟩,S.out.bel⟩;have e:num.length=N:=by omega
   have h1:=S.out.o1;rw[e,Nat.sub_self,List.replicate_zero,List.append_nil] at h1;exact⟨h1,S.out.o2,S.out.ap,e,by have:=S.out.nf;rw[e] at this;exact this⟩
def ldB (NX:List Nat) (W c s:Nat):List Nat:=(List.range 256).map fun i=>if i<s then gN NX (i*W+c) else 0
def mkB (B:List Nat):Array Value:=(B.map fun(b:Nat)=>Value.int .u8 (b:Int)).toArray
theorem qgw (NX:List Nat) (W c s:Nat):(ldB NX W c s).length=256:=by simp[ldB]
theorem qce (NX:List Nat) (W c s:Nat):(mkB (ldB NX W c s)).size=256:=by simp[mkB,ldB]
theorem qjb (B:List Nat):(mkB B).all (·.oneCell')=true:=by simp[mkB,Value.oneCell']
theorem qld (NX:List Nat) (W c:Nat):mkB (ldB NX W c 0)=Array.replicate 256 (Value.int .u8 0):=by
 apply Array.ext
 ·simp[mkB,ldB]
 ·intro i h1 h2
  simp[mkB,ldB]
theorem qgx (NX:List Nat) (W c s i:Nat) (hi:i<256):gN (ldB NX W c s) i=if i<s then gN NX (i*W+c) else 0:=by
 rw[qah (by rw[qgw];exact hi)];simp[ldB]
theorem qgy (NX:List Nat) (W c s i:Nat) (hi:i<256):(mkB (ldB NX W c s))[i]? =some (.int .u8 ((if i<s then gN NX (i*W+c) else 0:Nat):Int)):=by
 have h:i<(ldB NX W c s).length:=by rw[qgw];exact hi
 unfold mkB;rw[List.getElem?_toArray,List.getElem?_map,List.getElem?_eq_getElem h,←qah h,qgx _ _ _ _ _ hi];rfl
theorem qm0 (NX:List Nat) (W c s:Nat) (hs:s<256):(mkB (ldB NX W c s)).set! s (.int .u8 ((gN NX (s*W+c):Nat):Int))=mkB (ldB NX W c (s+1)):=by
 apply Array.ext_getElem?;intro i;rw[Array.set!_eq_setIfInBounds,Array.getElem?_setIfInBounds];by_cases hi:i<256
 ·rw[qgy _ _ _ (s+1) _ hi,qce]
  by_cases e:s=i
  ·subst e
   rw[if_pos rfl,if_pos hs,if_pos (Nat.lt_succ_self _)]
  ·rw[if_neg e,qgy _ _ _ s _ hi]
   by_cases h2:i<s
   ·rw[if_pos h2,if_pos (by omega)]
   ·rw[if_neg h2,if_neg (by omega)]
 ·rw[if_neg (by omega),Array.getElem?_eq_none (by rw[qce];omega),Array.getElem?_eq_none (by rw[qce];omega)]
set_option maxRecDepth 100000 in
set_option maxHeartbeats 4000000 in
theorem qew (bs:By) (na oa:Option Addr) (nc oc ol c W ab wb:Nat) (NX:List Nat) (w:World) (ho:ol≤256) (hn:NX.length≤16777216) (hat:∀s,s<ol→s*W+c<NX.length) (hv:∀t,t<NX.length→gN NX t<256) (ha:w.heap[ab]? =some (.cells #[.string ⟨bs.toArray⟩,.slice na NX.length nc,.slice oa ol oc] 24 (0,0))) (hw:w.cell? ⟨wb,0,none⟩=some (.int .i64 (W:Int))) (hwl:wb<w.heap.size) (hnx:NAt w na NX):
 Calls Tryz.prog 119 #[.int .i64 (c:Nat),.pointer (some ⟨ab,0,none⟩),.pointer (some ⟨wb,0,none⟩)] w fun e w'=>e=.returned (.agg (mkB (ldB NX W c ol)))∧Below w.heap.size w w':=by
 obtain⟨hzv,hsz⟩:=zero_of_info Tryz.info169;rw[←qld NX W c] at hzv;obtain⟨z,hz⟩:∃z,z=mkB (ldB NX W c 0):=⟨_,rfl⟩;rw[←hz] at hzv;have HZS:Hid (z.size=256):=by unfold Hid;rw[hz,qce]
 have HSZ:=qaa hsz;have HZ:=qaa hz;have hab:=lt_of_block ha;obtain⟨w2,hw2,X2,B1,B2⟩:∃w2,w2=(w.alloc (.cells z 169)).alloc (.cells z 169)∧Below w.heap.size w w2∧w2.heap[w.heap.size]? =some (.cells z 169 (0,0))∧w2.heap[w.heap.size+1]? =some (.cells z 169 (0,0)):=by
  have B1:=heap_alloc_new w (.cells z 169);have s1:(w.alloc (.cells z 169)).heap.size=w.heap.size+1:=by simp
  have hb1:Below w.heap.size w (w.alloc (.cells z 169)):=al (Below.refl _ _) _;generalize w.alloc (.cells z 169)=wa at *;have B2:=heap_alloc_new wa (.cells z 169);have Y2:Below wa.heap.size wa (wa.alloc (.cells z 169)):=al (Below.refl _ _) _;rw[s1] at B2;exact⟨_,rfl,bt hb1 Y2 (Nat.le_refl _),(Y2.block _ (lt_of_block B1)).trans B1,B2⟩
 have HX2:=qaa X2;have HB1:=qaa B1;have B0:Hid (w2.heap[w.heap.size+1]? =some (.cells (mkB (ldB NX W c 0)) 169 (0,0))):=by unfold Hid;rw[←hz];exact B2
 have HC:Hid (∀V,Below w.heap.size w V→V.cell? ⟨ab,1,none⟩=some (.slice na NX.length nc)∧V.cell? ⟨ab,2,none⟩=some (.slice oa ol oc)∧V.cell? ⟨wb,0,none⟩=some (.int .i64 (W:Int))∧NAt V na NX):=fun V x=>by
  have Bv:=(x.block ab hab).trans ha;exact⟨by rw[cell_of_row _ _ _ _ _ _ Bv];rfl,by rw[cell_of_row _ _ _ _ _ _ Bv];rfl,(x.cell (p:=⟨wb,0,none⟩) hwl).trans hw,hnx.below x⟩
 have HAT:=qaa hat;have HV:=qaa hv;obtain⟨_,e2,_,_⟩:=HC.out w2 X2;clear hz hsz X2 B1 B2 ha hw hnx hat hv;go_enter Tryz.func119,Tryz.ntmps119;go_upto_region 2 with fail
 rw[←hw2];clear hw2;go_wp2;go_loopg [10] (ol+1) (fun g x wr=>∃s:Nat,x=.int .i64 (s:Nat)∧Hid (wr.heap[w.heap.size+1]? =some (.cells (mkB (ldB NX W c s)) 169 (0,0)))∧Hid (wr.heap[w.heap.size]? =some (.cells z 169 (0,0)))∧Hid (Below w.heap.size w wr)∧s≤ol∧ol-s<g)
 case atStart=>exact⟨0,rfl,B0,HB1,HX2,by omega,by omega⟩
 case round=>
  obtain⟨s,rfl,BL,BR,X,hsl,hg⟩:=hrel;have HG:=qaa hg;clear hg B0 HB1 HX2 e2;obtain⟨e1,e2,e3,kn⟩:=HC.out wr X.out;by_cases hs:s<ol
  ·have hs':(s:Int)<(ol:Int):=by omega
   have hq:=HAT.out s hs;have hx:=HV.out _ hq;obtain⟨nb,off,rfl,_,cn⟩:=kn.get hq;rw[←qah hq] at cn;have hsW:s*W≤16777216:=by omega
   have f1:IntKind.i64.wrap ((s:Int)*(W:Int))=((s*W:Nat):Int):=by rw[show(s:Int)*(W:Int)=((s*W:Nat):Int) by simp];exact qak _ (by omega)
   have f3:IntKind.i64.wrap (((s*W:Nat):Int)+(c:Int))=((s*W+c:Nat):Int):=by rw[show((s*W:Nat):Int)+(c:Int)=((s*W+c:Nat):Int) by simp];exact qak _ (by omega)
   have BS:=block_setCell BL.out s (.int .u8 ((gN NX (s*W+c):Nat):Int));rw[qm0 NX W c s (by omega)] at BS;have k6:Kept (fun b=>b=w.heap.size+1) wr (wr.setCell ⟨w.heap.size+1,s,none⟩ (.int .u8 ((gN NX (s*W+c):Nat):Int))):=(Kept.refl (fun b=>b=w.heap.size+1) wr).setCell (p:=⟨w.heap.size+1,s,none⟩) rfl _;have BR6:=qaa ((k6.block _ (lt_of_block BR.out) (by omega)).trans BR.out);have X6:=qaa (X.out.trans (k6.below X.out.size (fun b hb=>by omega)));have BL6:=qaa BS;have hcl:wr.cell? ⟨w.heap.size+1,s,none⟩=some (.int .u8 ((if s<s then gN NX (s*W+c) else 0:Nat):Int)):=by rw[cell_of_row _ _ _ _ _ _ BL.out];exact qgy _ _ _ _ _ (by omega)
   obtain⟨vz,hcl⟩:∃v,wr.cell? ⟨w.heap.size+1,s,none⟩=some v:=⟨_,hcl⟩;have hfz:=frozen_of_row _ _ s _ _ BL.out;clear BS k6;generalize gN NX (s*W+c)=y at *;generalize hm:s*W=m at *;have hlt:(m:Int)+(c:Int)<(NX.length:Int):=by omega
   have hlt2:((m:Int)+(c:Int)).toNat=m+c:=by omega
   have hlz:(0:Int)≤(m:Int)+(c:Int):=by omega
   have u8w:IntKind.u8.wrap (y:Int)=(y:Int):=by simp[IntKind.wrap,IntKind.bits,IntKind.signed];omega
   have s256:(s:Int)<256:=by omega
   clear hm;go_wp2;go_roundg (ol-(s+1)+1)
   case measure=>have:=HG.out;omega
   case rel=>exact⟨s+1,by first|rfl|go_num|(congr 1;omega),BL6,BR6,X6,by omega,by omega⟩
  ·have hs':¬(s:Int)<(ol:Int):=by omega
   obtain rfl:s=ol:=by omega
   have HI:Hid ((Tryz.prog.info? 169).map (·.size)=some (mkB (ldB NX W c s)).size):=by unfold Hid;rw[HSZ.out,qce]
   have HZ2:Hid (z.size=(mkB (ldB NX W c s)).size):=by unfold Hid;rw[HZS.out,qce]
   have HAL:=qaa (qjb (ldB NX W c s));have HBN:=qaa (setRow_heap wr w.heap.size z (mkB (ldB NX W c s)) 169 (0,0) BR.out);have HXN:=qaa (below_setRow X.out (Nat.le_refl _) (mkB (ldB NX W c s)));obtain⟨m,hm⟩:∃m,Hid (m=mkB (ldB NX W c s)):=⟨_,rfl⟩;rw[←hm.out] at HI HZ2 HAL HBN HXN BL;clear hzv;go_wp2_with (first
    |(refine wpList_load_row rfl 169 (.tmp 5) rfl (w.heap.size+1) rfl 169 m (0,0) _ BL.out Tryz.underlying169 rfl HI.out ?_)
    |(refine wpList_store_row rfl 169 (.tmp 4) (.tmp 27) rfl w.heap.size m rfl rfl 169 z BR.out HI.out HZ2.out HAL.out ?_))
   refine bodyPost_ret (v:=.agg m) (results_cell_row rfl _ _ w.heap.size 169 m (0,0) _ rfl HBN.out Tryz.underlying169 rfl HI.out) rfl ?_;exact⟨by rw[hm.out],HXN.out⟩
end Go.Proofs.YtdgoilkgplnhfaaGreat

