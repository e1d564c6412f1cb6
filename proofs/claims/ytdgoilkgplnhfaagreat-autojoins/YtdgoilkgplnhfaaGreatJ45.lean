/-
  The document's Join by its contract, of two automata in their one form: what the program's tells. Condition: both are in their one form.
-/
import Derived.Test.YtdgoilkgplnhfaaGreatJ37
import Derived.Test.YtdgoilkgplnhfaaGreatJ42
import Derived.Test.YtdgoilkgplnhfaaGreatJ44
import Derived.Test.YtdgoilkgplnhfaaGreatJ43
import Derived.Test.YtdgoilkgplnhfaaGreatJ40
namespace Go.Proofs.YtdgoilkgplnhfaaGreat
open Go.RowKit Go.Lib Go.Maps
theorem qnw {bsA bsB:By} {NA OA NB OB:List Nat} (b c:Nat) (e:cdP (pcP bsA bsB b)=cdP (pcP bsA bsB c)):(dfA bsA NA OA).bc b=(dfA bsA NA OA).bc c∧(dfA bsB NB OB).bc b=(dfA bsB NB OB).bc c:=by
 have h:=qfa (UInt8.toNat_lt _) (UInt8.toNat_lt _) e;exact⟨congrArg Prod.fst h,congrArg Prod.snd h⟩
theorem AtA.z {w:World} {bs:By} {xa oa:Option Addr} {NX OU:List Nat} (h:AtA w bs xa oa NX OU):qay bs (zN NX) (zN OU):=⟨by rw[qal];exact h.n,NX,OU,rfl,rfl,h.may,h.rt⟩
theorem AtA.rightD {w:World} {bs:By} {xa oa:Option Addr} {NX OU:List Nat} (h:AtA w bs xa oa NX OU) (nc oc:Nat):Calls Tryz.prog 17 #[.agg #[.string ⟨bs.toArray⟩,.slice xa NX.length nc,.slice oa OU.length oc]] w fun e w'=>e=.returned (.bool true)∧Below w.heap.size w w':=by
 have hw:=h.may.wl;have hN:NX.length≤65536:=by
  have h2:OU.length*(NX.length/OU.length)≤256*256:=Nat.mul_le_mul h.n h.may.w1;omega
 have hn:=h.n;have:=qct bs xa oa nc oc (zN NX) (zN OU) w (by rw[qal];omega) (by rw[qal];omega) h.nx.raw h.ou.raw;unfold auV at this;rw[qal,qal] at this;refine this.mono ?_;rintro e w' ⟨⟨b,rfl,hb⟩,x⟩;rw[hb.2 h.z];exact⟨rfl,x⟩
set_option maxRecDepth 100000 in
set_option maxHeartbeats 16000000 in
theorem qkh (bsA bsB:By) (xA oA xB oB:Option Addr) (xAc oAc xBc oBc:Nat) (NA OA NB OB:List Nat) (w:World) (hA:AtA w bsA xA oA NA OA) (hB:AtA w bsB xB oB NB OB):
 Calls Tryz.prog 24 #[auV bsA xA NA.length xAc oA OA.length oAc,auV bsB xB NB.length xBc oB OB.length oBc] w fun e w'=>JnP (dfA bsA NA OA) (dfA bsB NB OB) w.heap.size e w'∧Below w.heap.size w w':=by
 obtain⟨w2,hw2⟩:∃w2,w2=(w.alloc (.cells #[.string ⟨bsA.toArray⟩,.slice xA NA.length xAc,.slice oA OA.length oAc] 24)).alloc (.cells #[.string ⟨bsB.toArray⟩,.slice xB NB.length xBc,.slice oB OB.length oBc] 24):=⟨_,rfl⟩;obtain⟨X2,B1,B2,hs2⟩:=qap w #[.string ⟨bsA.toArray⟩,.slice xA NA.length xAc,.slice oA OA.length oAc] #[.string ⟨bsB.toArray⟩,.slice xB NB.length xBc,.slice oB OB.length oBc] 24 24;rw[←hw2] at X2 B1 B2 hs2;have X3:Below w2.heap.size w2 (w2.alloc (.cells #[.string ⟨#[]⟩,.slice none 0 0,.slice none 0 0] 24)):=al (Below.refl _ _) _;have B3:=heap_alloc_new w2 (.cells #[.string ⟨#[]⟩,.slice none 0 0,.slice none 0 0] 24);rw[hs2] at B3;obtain⟨w3,hw3⟩:∃w3,w3=w2.alloc (.cells #[.string ⟨#[]⟩,.slice none 0 0,.slice none 0 0] 24):=⟨_,rfl⟩;rw[←hw3] at X3 B3;have X03:=bt X2 X3 (Nat.le_refl _);have HC:Hid (∀V,Below w3.heap.size w3 V→(V.cell? ⟨w.heap.size,0,none⟩=some (.string ⟨bsA.toArray⟩)∧V.cell? ⟨w.heap.size,1,none⟩=some (.slice xA NA.length xAc)∧V.cell? ⟨w.heap.size,2,none⟩=some (.slice oA OA.length oAc))∧(V.cell? ⟨w.heap.size+1,0,none⟩=some (.string ⟨bsB.toArray⟩)∧V.cell? ⟨w.heap.size+1,1,none⟩=some (.slice xB NB.length xBc)∧V.cell? ⟨w.heap.size+1,2,none⟩=some (.slice oB OB.length oBc))∧V.heap[w.heap.size+2]? =some (.cells #[.string ⟨#[]⟩,.slice none 0 0,.slice none 0 0] 24 (0,0))∧AtA V bsA xA oA NA OA∧AtA V bsB xB oB NB OB∧w.heap.size+2<V.heap.size):=fun V x=>by
  have y:=bt X3 x (Nat.le_refl _);have Bv:=(y.block _ (lt_of_block B1)).trans B1;have Bw:=(y.block _ (lt_of_block B2)).trans B2;have Bz:=(x.block _ (lt_of_block B3)).trans B3;exact⟨⟨by rw[cell_of_row _ _ _ _ _ _ Bv];rfl,by rw[cell_of_row _ _ _ _ _ _ Bv];rfl,by rw[cell_of_row _ _ _ _ _ _ Bv];rfl⟩,⟨by rw[cell_of_row _ _ _ _ _ _ Bw];rfl,by rw[cell_of_row _ _ _ _ _ _ Bw];rfl,by rw[cell_of_row _ _ _ _ _ _ Bw];rfl⟩,Bz,hA.below (bt X03 x (Nat.le_refl _)),hB.below (bt X03 x (Nat.le_refl _)),lt_of_block Bz⟩
 have HX3:=qaa X03;have HMA:=qaa hA.may;have HMB:=qaa hB.may;have HnA:=qaa hA.n;have HnB:=qaa hB.n;clear X2 B1 B2 hs2 X3 B3 X03 hA hB;obtain⟨⟨c0,c1,c2⟩,⟨d0,d1,d2⟩,_,kA,_,_⟩:=HC.out w3 (Below.refl _ _);have HR1:=qaa (kA.rightD xAc oAc);clear kA;unfold auV;go_enter Tryz.func24,Tryz.ntmps24;go_upto_region 1 with fail
 rw[←hw2,←hw3];rw[show w.heap.size+1+1=w.heap.size+2 from rfl];clear hw2 hw3;go_upto_region 2 with(go_at_call 17;refine HR1.out.mono ?_;rintro e w4 ⟨rfl,x4⟩;have X4:=qaa x4;clear x4)
 clear HR1 c0 c1 c2 d0 d1 d2;obtain⟨⟨c0,c1,c2⟩,⟨d0,d1,d2⟩,_,_,kB,_⟩:=HC.out w4 X4.out;have HR2:=qaa (kB.rightD xBc oBc);clear kB;go_upto_region 3 with(go_at_call 17;refine HR2.out.mono ?_;rintro e w5 ⟨rfl,x5⟩;have X5:=qaa (bt X4.out x5 (Nat.le_refl _));clear x5)
 clear HR2 c0 c1 c2 d0 d1 d2;obtain⟨⟨c0,c1,c2⟩,⟨d0,d1,d2⟩,_,kA,kB,_⟩:=HC.out w5 X5.out;have HPR:=qaa (qf7 bsA bsB xA oA xB oB xAc oAc xBc oBc NA OA NB OB w5 kA kB);clear kA kB;unfold auV at HPR;go_upto_region 5 with fail
 go_upto_region 6 with(go_at_call 62;refine HPR.out.mono ?_;rintro e w6 ⟨⟨num,fst,XN,St,xa,la0,xnc,lc0,rfl,hq1,hq2,hq3,hq4,hq5,hq6⟩,x6⟩;have HQ1:=qaa hq1;have HNF:=qaa hq2;have HED:=qaa hq3;have HST:=qaa hq4;have HXN:=qaa hq5;have HLA:=qaa hq6;have X6:=qaa x6;clear hq1 hq2 hq3 hq4 hq5 hq6 x6)
 clear HPR c0 c1 c2 d0 d1 d2;obtain⟨bs,hbs⟩:∃bs:By,bs=qav num:=⟨_,rfl⟩;have HBS:=qaa hbs;have F6:Hid (FrP w5 [(.slice xa XN.length xnc,3,qab XN),(.slice none 0 0,3,qab [])] (.slice la0 St.length lc0) (spP St) (.slice none 0 0) [] w6):=by
  have h1:=(((Fr.start w5).cons X6.out (v:=.slice xa XN.length xnc) (e:=3) (L:=qab XN) (by rw[qaf];exact HXN.out) (fun b hb=>(World.ownsRow.lt HXN.out b hb).1)).bare 3);exact⟨h1,HLA.out,World.ownsRow_nil _ _ _ _,fun r hr=>by
   simp only[List.mem_cons,List.not_mem_nil,or_false] at hr;rcases hr with rfl|rfl<;>(intro h;cases h),fun b _ hb=>by cases hb⟩
 obtain⟨bx,hbx⟩:∃bx,bx=w6.heap.size:=⟨_,rfl⟩;obtain⟨w7,hw7⟩:∃w7,w7=w6.alloc (.cells #[.string ⟨bs.toArray⟩,.slice xa XN.length xnc,.slice none 0 0] 24):=⟨_,rfl⟩;have F7:Hid (FrP w5 [(.slice (some ⟨bx,0,none⟩) 3 3,24,[.string ⟨bs.toArray⟩,.slice xa XN.length xnc,.slice none 0 0]),(.slice xa XN.length xnc,3,qab XN),(.slice none 0 0,3,qab [])] (.slice la0 St.length lc0) (spP St) (.slice none 0 0) [] w7):=by
  rw[hw7,hbx];exact F6.out.box 24 [.string ⟨bs.toArray⟩,.slice xa XN.length xnc,.slice none 0 0] (by simp[maxLen]) (by decide)
 rw[←hbs,←hw7,←hbx];clear hbs hw7 hbx F6 HXN HLA X6;have X7:=qaa (bt X5.out F7.out.fr.bel (Nat.le_refl _));obtain⟨⟨c0,c1,c2⟩,⟨d0,d1,d2⟩,_,kA,kB,_⟩:=HC.out w7 X7.out;have HL1:=qaa (qd8 bsA xA oA NA.length xAc oAc OA w7 HMA.out.n1 HMA.out.lb kA.ou);clear kA kB;unfold auV at HL1;go_upto_region 7 with(go_at_call 63;refine HL1.out.mono ?_;rintro e w8 ⟨⟨xo,xc,xao,xac,X,ATX,rfl,hq1,hq2,hq3,hq4⟩,x8⟩;have HV1:=qaa hq1;have HLX:=qaa hq2;have hxl:=hq3;have HUX:=qaa hq4;have Y8:=qaa x8;clear hq1 hq2 hq3 hq4 x8)
 clear HL1 c0 c1 c2 d0 d1 d2;have F8:Hid (FrP w5 [(.slice xao ATX.length xac,3,qab ATX),(.slice xo X.length xc,3,qab X),(.slice (some ⟨bx,0,none⟩) 3 3,24,[.string ⟨bs.toArray⟩,.slice xa XN.length xnc,.slice none 0 0]),(.slice xa XN.length xnc,3,qab XN),(.slice none 0 0,3,qab [])] (.slice la0 St.length lc0) (spP St) (.slice none 0 0) [] w8):=F7.out.join Y8.out HV1.out (fun r hr=>by
  simp only[List.mem_cons,List.not_mem_nil,or_false] at hr;rcases hr with rfl|rfl<;>(intro h;cases h))
 clear F7 HV1 Y8 X7;have X8:=qaa (bt X5.out F8.out.fr.bel (Nat.le_refl _));obtain⟨⟨c0,c1,c2⟩,⟨d0,d1,d2⟩,_,kA,kB,_⟩:=HC.out w8 X8.out;have HL1:=qaa (qd8 bsB xB oB NB.length xBc oBc OB w8 HMB.out.n1 HMB.out.lb kB.ou);clear kA kB;unfold auV at HL1;go_upto_region 8 with(go_at_call 63;refine HL1.out.mono ?_;rintro e w9 ⟨⟨yo,yc,yao,yac,Y,ATY,rfl,hq1,hq2,hq3,hq4⟩,x8⟩;have HV1:=qaa hq1;have HLY:=qaa hq2;have hyl:=hq3;have HUY:=qaa hq4;have Y8:=qaa x8;clear hq1 hq2 hq3 hq4 x8)
 clear HL1 c0 c1 c2 d0 d1 d2;have F9:Hid (FrP w5 [(.slice yao ATY.length yac,3,qab ATY),(.slice yo Y.length yc,3,qab Y),(.slice xao ATX.length xac,3,qab ATX),(.slice xo X.length xc,3,qab X),(.slice (some ⟨bx,0,none⟩) 3 3,24,[.string ⟨bs.toArray⟩,.slice xa XN.length xnc,.slice none 0 0]),(.slice xa XN.length xnc,3,qab XN),(.slice none 0 0,3,qab [])] (.slice la0 St.length lc0) (spP St) (.slice none 0 0) [] w9):=F8.out.join Y8.out HV1.out (fun r hr=>by
  simp only[List.mem_cons,List.not_mem_nil,or_false] at hr;rcases hr with rfl|rfl<;>(intro h;cases h))
 clear F8 HV1 Y8 X8;have hXl:X.length≤65536:=Nat.le_trans HLX.out.len hxl;have hYl:Y.length≤65536:=Nat.le_trans HLY.out.len hyl;obtain⟨KK,hKK⟩:∃KK,KK=X.length*Y.length:=⟨_,rfl⟩;have hKl:KK≤4294967296:=by
  have:X.length*Y.length≤65536*65536:=Nat.mul_le_mul hXl hYl;omega
 have hSl:St.length≤65536:=qj8 HED.out HST.out HnA.out HnB.out;have f0:IntKind.i64.wrap ((X.length:Int)*(Y.length:Int))=(KK:Int):=by rw[hKK,show(X.length:Int)*(Y.length:Int)=((X.length*Y.length:Nat):Int) by simp];exact qak _ (by omega)
 have HKK:=qaa hKK;clear hKK;obtain⟨i3,hi3,hz30,hz31,hz32⟩:=info_parts Tryz.info3n;obtain⟨i48,hi48,hz480,hz481,hz482⟩:=info_parts Tryz.info48;go_upto_region 9 with(at_make;refine wpList_make_full _ rfl (.tmp 53) (.tmp 53) 22 rfl w5.heap.size 3 i3 (.int .i64 0) 1 Tryz.underlying22 hi3 hz30 hz31 .i64 .i64 _ _ KK rfl rfl (by first|rfl|simp) (by first|rfl|simp) (by rw[hz32];omega) (by unfold maxLen;omega) F9.out.fr.bel.size ?_;intro w10 m1 m2;have F10:=qaa (F9.out.mkN m1 m2);clear m1 m2)
 obtain⟨gi,hgi⟩:∃gi,gi=w9.heap.size:=⟨_,rfl⟩;rw[←hgi] at F10 ⊢;clear hgi F9 f0;obtain⟨CL,hCL⟩:∃CL:List Nat,CL=St.map (cdL ATX ATY OA OB Y.length):=⟨_,rfl⟩;have HCL:=qaa hCL;have HCN:Hid (CL.length=St.length):=by unfold Hid;rw[hCL,List.length_map]
 have HCI:Hid (∀i,i<St.length→gN CL i=cdL ATX ATY OA OB Y.length (gS (0,0) St i)∧gN CL i<KK):=fun i hi=>by
  have e:gN CL i=cdL ATX ATY OA OB Y.length (gS (0,0) St i):=by
   rw[hCL,qah (by rw[List.length_map];exact hi),List.getElem_map,qb2 hi]
  refine⟨e,?_⟩;have hp:gS (0,0) St i∈St:=by rw[qb2 hi];exact List.getElem_mem hi
  rw[e,HKK.out];exact(qf5 HLX.out HLY.out HUX.out HUY.out (HST.out _ hp).1 (HST.out _ hp).2).1
 have L0:Hid (FlI CL 0 (List.replicate KK 0)):=FlI.start _;have HSE:Hid (∀(IS O:List Nat) (ov bv pv:Value) (P:List Spn) V,FrP w5 [(.slice (some ⟨gi,0,none⟩) KK KK,3,qab IS),(.slice yao ATY.length yac,3,qab ATY),(.slice yo Y.length yc,3,qab Y),(.slice xao ATX.length xac,3,qab ATX),(.slice xo X.length xc,3,qab X),(.slice (some ⟨bx,0,none⟩) 3 3,24,[.string ⟨bs.toArray⟩,.slice xa XN.length xnc,bv]),(.slice xa XN.length xnc,3,qab XN),(ov,3,qab O)] (.slice la0 St.length lc0) (spP St) pv P V→∀i,i<St.length→∃(lg gx gy:Nat) (ab ao bb bo p1 p2 xl yl tx ty:Nat),la0=some ⟨lg,0,none⟩∧xao=some ⟨gx,0,none⟩∧yao=some ⟨gy,0,none⟩∧oA=some ⟨ab,ao,none⟩∧oB=some ⟨bb,bo,none⟩∧p1<OA.length∧p2<OB.length∧xl<ATX.length∧yl<ATY.length∧0<tx∧0<ty∧tx≤65536∧ty≤65536∧(tx-1)*Y.length+(ty-1)=gN CL i∧Hid (∀(IS O:List Nat) (ov bv pv:Value) (P:List Spn) V,FrP w5 [(.slice (some ⟨gi,0,none⟩) KK KK,3,qab IS),(.slice yao ATY.length yac,3,qab ATY),(.slice yo Y.length yc,3,qab Y),(.slice xao ATX.length xac,3,qab ATX),(.slice xo X.length xc,3,qab X),(.slice (some ⟨bx,0,none⟩) 3 3,24,[.string ⟨bs.toArray⟩,.slice xa XN.length xnc,bv]),(.slice xa XN.length xnc,3,qab XN),(ov,3,qab O)] (.slice la0 St.length lc0) (spP St) pv P V→V.cell? ⟨w.heap.size,2,none⟩=some (.slice (some ⟨ab,ao,none⟩) OA.length oAc)∧V.cell? ⟨w.heap.size+1,2,none⟩=some (.slice (some ⟨bb,bo,none⟩) OB.length oBc)∧V.cell? ⟨lg,i*2,none⟩=some (.int .i64 (p1:Int))∧V.cell? ⟨lg,i*2+1,none⟩=some (.int .i64 (p2:Int))∧V.cell? ⟨ab,ao+p1,none⟩=some (.int .i64 (xl:Int))∧V.cell? ⟨bb,bo+p2,none⟩=some (.int .i64 (yl:Int))∧V.cell? ⟨gx,xl,none⟩=some (.int .i64 (tx:Int))∧V.cell? ⟨gy,yl,none⟩=some (.int .i64 (ty:Int)))):=fun IS O ov bv pv P V F i hi=>by
  have hp:gS (0,0) St i∈St:=by rw[qb2 hi];exact List.getElem_mem hi
  obtain⟨h1,h2⟩:=HST.out _ hp;obtain⟨lg,lc,el,-,-⟩:=F.swap.at2 (i:=i) (by rw[qbe];exact hi);simp only[Value.slice.injEq] at el;obtain⟨el,-,-⟩:=el;obtain⟨a1,a2,a3,a4⟩:=qlx HLX.out HUX.out h1;obtain⟨b1,b2,b3,b4⟩:=qlx HLY.out HUY.out h2;obtain⟨gx,ex,-,-⟩:=F.fr.cell (i:=3) (by simp) rfl (k:=gN OA (gS (0,0) St i).1) (by rw[qaf];exact a1);obtain⟨gy,ey,-,-⟩:=F.fr.cell (i:=1) (by simp) rfl (k:=gN OB (gS (0,0) St i).2) (by rw[qaf];exact b1);obtain⟨_,_,_,kA,kB,_⟩:=HC.out V (bt X5.out F.fr.bel (Nat.le_refl _));obtain⟨ab,ao,eA,-,-⟩:=kA.ou.get h1;obtain⟨bb,bo,eB,-,-⟩:=kB.ou.get h2;refine⟨lg,gx,gy,ab,ao,bb,bo,(gS (0,0) St i).1,(gS (0,0) St i).2,gN OA (gS (0,0) St i).1,gN OB (gS (0,0) St i).2,gN ATX (gN OA (gS (0,0) St i).1),gN ATY (gN OB (gS (0,0) St i).2),el,ex,ey,eA,eB,h1,h2,a1,b1,a2,b2,by omega,by omega,(HCI.out i hi).1.symm,fun IS O ov bv pv P V F=>?_⟩;obtain⟨lg2,lc2,el2,e1,e2⟩:=F.swap.at2 (i:=i) (by rw[qbe];exact hi);rw[el] at el2;simp only[Value.slice.injEq,Option.some.injEq,Addr.mk.injEq,and_true] at el2;obtain⟨rfl,-,-⟩:=el2;rw[qd9 hi] at e1 e2;subst ex ey eA eB;obtain⟨⟨_,_,c2⟩,⟨_,_,d2⟩,_,kA,kB,_⟩:=HC.out V (bt X5.out F.fr.bel (Nat.le_refl _));exact⟨c2,d2,e1,e2,kA.ou.atG h1,kB.ou.atG h2,(F.fr.slotN (i:=3) (by simp) rfl a1).1,(F.fr.slotN (i:=1) (by simp) rfl b1).1⟩
 go_wp2;go_loopg [16] (St.length+1) (fun g y wr=>∃(i:Nat) (IS:List Nat),y=.int .i64 (i:Nat)∧i≤St.length∧Hid (FrP w5 [(.slice (some ⟨gi,0,none⟩) KK KK,3,qab IS),(.slice yao ATY.length yac,3,qab ATY),(.slice yo Y.length yc,3,qab Y),(.slice xao ATX.length xac,3,qab ATX),(.slice xo X.length xc,3,qab X),(.slice (some ⟨bx,0,none⟩) 3 3,24,[.string ⟨bs.toArray⟩,.slice xa XN.length xnc,(.slice none 0 0)]),(.slice xa XN.length xnc,3,qab XN),((.slice none 0 0),3,qab [])] (.slice la0 St.length lc0) (spP St) (.slice none 0 0) [] wr)∧Hid (FlI CL i IS)∧IS.length=KK∧St.length-i<g)
 case atStart=>exact⟨0,_,rfl,by omega,F10,L0,by simp,by omega⟩
 case round=>
  clear F10 L0;obtain⟨i,IS,rfl,hi1,F,S,hIS,hg⟩:=hrel;have HG:=qaa hg;clear hg;by_cases hi:i<St.length
  ·as_aux_lemma=>
   obtain⟨lg,gx,gy,ab,ao,bb,bo,p1,p2,xl,yl,tx,ty,rfl,rfl,rfl,rfl,rfl,hp1,hp2,hx1,hy1,ht1,ht2,ht3,ht4,hcd,HS⟩:=HSE.out _ _ _ _ _ _ _ F.out i hi;have hi':(i:Int)<(St.length:Int):=by omega
   have hp1I:(p1:Int)<(OA.length:Int):=by omega
   have hp2I:(p2:Int)<(OB.length:Int):=by omega
   have hx1I:(xl:Int)<(ATX.length:Int):=by omega
   have hy1I:(yl:Int)<(ATY.length:Int):=by omega
   have hcK:=(HCI.out i hi).2;obtain⟨c,hc⟩:∃c,c=gN CL i:=⟨_,rfl⟩;have HCC:=qaa hc;rw[←hc] at hcd hcK;clear hc;have hcKI:(c:Int)<(KK:Int):=by omega
   obtain⟨ix,hix⟩:∃ix,ix=tx-1:=⟨_,rfl⟩;rw[←hix] at hcd;have hmI:ix*Y.length≤4294967296:=by
    have:ix*Y.length≤65536*65536:=Nat.mul_le_mul (by omega) hYl;omega
   obtain⟨z1,hz1⟩:∃z:Int,z=(ix:Int)*(Y.length:Int):=⟨_,rfl⟩;have hz1':z1=((ix*Y.length:Nat):Int):=by rw[hz1];simp
   obtain⟨z2,hz2⟩:∃z:Int,z=z1+(ty:Int):=⟨_,rfl⟩;have f1:IntKind.i64.wrap ((tx:Int)-1)=(ix:Int):=by rw[show(tx:Int)-1=(ix:Int) by omega];exact qak _ (by omega)
   have f2:IntKind.i64.wrap ((ix:Int)*(Y.length:Int))=z1:=by rw[←hz1,hz1'];exact qak _ (by omega)
   have f3:IntKind.i64.wrap (z1+(ty:Int))=z2:=by rw[←hz2,show z2=((ix*Y.length+ty:Nat):Int) by omega];exact qak _ (by omega)
   have f4:IntKind.i64.wrap (z2-1)=(c:Int):=by rw[show z2-1=(c:Int) by omega];exact qak _ (by omega)
   clear hix hz1 hz1' hz2 hmI hcd;have S2:Hid (FlI CL (i+1) (IS.set c 1)):=by
    rw[HCC.out];exact S.out.step (by rw[HCN.out];exact hi) (by rw[hIS,←HCC.out];exact hcK)
   clear S;go_wp2;have FD:Hid (FrP w5 [(.slice (some ⟨gi,0,none⟩) KK KK,3,qab IS),(.slice (some ⟨gy,0,none⟩) ATY.length yac,3,qab ATY),(.slice yo Y.length yc,3,qab Y),(.slice (some ⟨gx,0,none⟩) ATX.length xac,3,qab ATX),(.slice xo X.length xc,3,qab X),(.slice (some ⟨bx,0,none⟩) 3 3,24,[.string ⟨bs.toArray⟩,.slice xa XN.length xnc,(.slice none 0 0)]),(.slice xa XN.length xnc,3,qab XN),((.slice none 0 0),3,qab [])] (.slice (some ⟨lg,0,none⟩) St.length lc0) (spP St) (.slice none 0 0) [] wr.drew):=F.out.drew 1;clear F;refine qco (S:=fun V=>V.cell? ⟨w.heap.size,2,none⟩=some (.slice (some ⟨ab,ao,none⟩) OA.length oAc)∧V.cell? ⟨w.heap.size+1,2,none⟩=some (.slice (some ⟨bb,bo,none⟩) OB.length oBc)∧V.cell? ⟨lg,i*2,none⟩=some (.int .i64 (p1:Int))∧V.cell? ⟨lg,i*2+1,none⟩=some (.int .i64 (p2:Int))∧V.cell? ⟨ab,ao+p1,none⟩=some (.int .i64 (xl:Int))∧V.cell? ⟨bb,bo+p2,none⟩=some (.int .i64 (yl:Int))∧V.cell? ⟨gx,xl,none⟩=some (.int .i64 (tx:Int))∧V.cell? ⟨gy,yl,none⟩=some (.int .i64 (ty:Int))) 32 (by kernel_rfl) ?_;generalize wr.drew=wd at *;have HS0:Hid ((fun V=>V.cell? ⟨w.heap.size,2,none⟩=some (.slice (some ⟨ab,ao,none⟩) OA.length oAc)∧V.cell? ⟨w.heap.size+1,2,none⟩=some (.slice (some ⟨bb,bo,none⟩) OB.length oBc)∧V.cell? ⟨lg,i*2,none⟩=some (.int .i64 (p1:Int))∧V.cell? ⟨lg,i*2+1,none⟩=some (.int .i64 (p2:Int))∧V.cell? ⟨ab,ao+p1,none⟩=some (.int .i64 (xl:Int))∧V.cell? ⟨bb,bo+p2,none⟩=some (.int .i64 (yl:Int))∧V.cell? ⟨gx,xl,none⟩=some (.int .i64 (tx:Int))∧V.cell? ⟨gy,yl,none⟩=some (.int .i64 (ty:Int))) wd):=HS.out _ _ _ _ _ _ wd FD.out;clear HS;refine qaj.tk 0 rfl 61 HS0.out (fun w' ⟨q0,q1,q2,q3,q4,q5,q6,q7⟩=>by go_simp;first|done|rfl) ?_
   try simp only[Act.put,List.setIfInBounds_toArray,List.set_cons_zero,List.set_cons_succ]
   refine qaj.tk 1 rfl 62 HS0.out (fun w' ⟨q0,q1,q2,q3,q4,q5,q6,q7⟩=>by go_simp;first|done|rfl) ?_
   try simp only[Act.put,List.setIfInBounds_toArray,List.set_cons_zero,List.set_cons_succ]
   refine qaj.tk 2 rfl 63 HS0.out (fun w' ⟨q0,q1,q2,q3,q4,q5,q6,q7⟩=>by go_simp;first|done|rfl) ?_
   try simp only[Act.put,List.setIfInBounds_toArray,List.set_cons_zero,List.set_cons_succ]
   refine qaj.tk 3 rfl 64 HS0.out (fun w' ⟨q0,q1,q2,q3,q4,q5,q6,q7⟩=>by go_simp;first|done|rfl) ?_
   try simp only[Act.put,List.setIfInBounds_toArray,List.set_cons_zero,List.set_cons_succ]
   refine qaj.tk 4 rfl 65 HS0.out (fun w' ⟨q0,q1,q2,q3,q4,q5,q6,q7⟩=>by go_simp;first|done|rfl) ?_
   try simp only[Act.put,List.setIfInBounds_toArray,List.set_cons_zero,List.set_cons_succ]
   refine qaj.tk 5 rfl 66 HS0.out (fun w' ⟨q0,q1,q2,q3,q4,q5,q6,q7⟩=>by go_simp;first|done|rfl) ?_
   try simp only[Act.put,List.setIfInBounds_toArray,List.set_cons_zero,List.set_cons_succ]
   refine qaj.tk 6 rfl 67 HS0.out (fun w' ⟨q0,q1,q2,q3,q4,q5,q6,q7⟩=>by go_simp;first|done|rfl) ?_
   try simp only[Act.put,List.setIfInBounds_toArray,List.set_cons_zero,List.set_cons_succ]
   refine qaj.tk 7 rfl 68 HS0.out (fun w' ⟨q0,q1,q2,q3,q4,q5,q6,q7⟩=>by go_simp;first|done|rfl) ?_
   try simp only[Act.put,List.setIfInBounds_toArray,List.set_cons_zero,List.set_cons_succ]
   refine qaj.tk 8 rfl 69 HS0.out (fun w' ⟨q0,q1,q2,q3,q4,q5,q6,q7⟩=>by go_simp;first|done|rfl) ?_
   try simp only[Act.put,List.setIfInBounds_toArray,List.set_cons_zero,List.set_cons_succ]
   refine qaj.tk 9 rfl 70 HS0.out (fun w' ⟨q0,q1,q2,q3,q4,q5,q6,q7⟩=>by go_simp;first|done|rfl) ?_
   try simp only[Act.put,List.setIfInBounds_toArray,List.set_cons_zero,List.set_cons_succ]
   refine qaj.tk 10 rfl 71 HS0.out (fun w' ⟨q0,q1,q2,q3,q4,q5,q6,q7⟩=>by go_simp;first|done|rfl) ?_
   try simp only[Act.put,List.setIfInBounds_toArray,List.set_cons_zero,List.set_cons_succ]
   refine qaj.tk 11 rfl 72 HS0.out (fun w' ⟨q0,q1,q2,q3,q4,q5,q6,q7⟩=>by go_simp;first|done|rfl) ?_
   try simp only[Act.put,List.setIfInBounds_toArray,List.set_cons_zero,List.set_cons_succ]
   refine qaj.tk 12 rfl 73 HS0.out (fun w' ⟨q0,q1,q2,q3,q4,q5,q6,q7⟩=>by go_simp;first|done|rfl) ?_
   try simp only[Act.put,List.setIfInBounds_toArray,List.set_cons_zero,List.set_cons_succ]
   refine qaj.tk 13 rfl 74 HS0.out (fun w' ⟨q0,q1,q2,q3,q4,q5,q6,q7⟩=>by go_simp;first|done|rfl) ?_
   try simp only[Act.put,List.setIfInBounds_toArray,List.set_cons_zero,List.set_cons_succ]
   refine qaj.tk 14 rfl 75 HS0.out (fun w' ⟨q0,q1,q2,q3,q4,q5,q6,q7⟩=>by go_simp;first|done|rfl) ?_
   try simp only[Act.put,List.setIfInBounds_toArray,List.set_cons_zero,List.set_cons_succ]
   refine qaj.tk 15 rfl 76 HS0.out (fun w' ⟨q0,q1,q2,q3,q4,q5,q6,q7⟩=>by go_simp;first|done|rfl) ?_
   try simp only[Act.put,List.setIfInBounds_toArray,List.set_cons_zero,List.set_cons_succ]
   refine qaj.tk 16 rfl 77 HS0.out (fun w' ⟨q0,q1,q2,q3,q4,q5,q6,q7⟩=>by go_simp;first|done|rfl) ?_
   try simp only[Act.put,List.setIfInBounds_toArray,List.set_cons_zero,List.set_cons_succ]
   refine qaj.tk 17 rfl 78 HS0.out (fun w' ⟨q0,q1,q2,q3,q4,q5,q6,q7⟩=>by go_simp;first|done|rfl) ?_
   try simp only[Act.put,List.setIfInBounds_toArray,List.set_cons_zero,List.set_cons_succ]
   refine qaj.tk 18 rfl 79 HS0.out (fun w' ⟨q0,q1,q2,q3,q4,q5,q6,q7⟩=>by go_simp;first|done|rfl) ?_
   try simp only[Act.put,List.setIfInBounds_toArray,List.set_cons_zero,List.set_cons_succ]
   refine qaj.tk 19 rfl 80 HS0.out (fun w' ⟨q0,q1,q2,q3,q4,q5,q6,q7⟩=>by go_simp;first|done|rfl) ?_
   try simp only[Act.put,List.setIfInBounds_toArray,List.set_cons_zero,List.set_cons_succ]
   refine qaj.tk 20 rfl 81 HS0.out (fun w' ⟨q0,q1,q2,q3,q4,q5,q6,q7⟩=>by go_simp;first|done|rfl) ?_
   try simp only[Act.put,List.setIfInBounds_toArray,List.set_cons_zero,List.set_cons_succ]
   refine qaj.tk 21 rfl 82 HS0.out (fun w' ⟨q0,q1,q2,q3,q4,q5,q6,q7⟩=>by go_simp;first|done|rfl) ?_
   try simp only[Act.put,List.setIfInBounds_toArray,List.set_cons_zero,List.set_cons_succ]
   refine qaj.tk 22 rfl 83 HS0.out (fun w' ⟨q0,q1,q2,q3,q4,q5,q6,q7⟩=>by go_simp;first|done|rfl) ?_
   try simp only[Act.put,List.setIfInBounds_toArray,List.set_cons_zero,List.set_cons_succ]
   refine qaj.tk 23 rfl 84 HS0.out (fun w' ⟨q0,q1,q2,q3,q4,q5,q6,q7⟩=>by go_simp;first|done|rfl) ?_
   try simp only[Act.put,List.setIfInBounds_toArray,List.set_cons_zero,List.set_cons_succ]
   refine qaj.tk 24 rfl 85 HS0.out (fun w' ⟨q0,q1,q2,q3,q4,q5,q6,q7⟩=>by go_simp;first|done|rfl) ?_
   try simp only[Act.put,List.setIfInBounds_toArray,List.set_cons_zero,List.set_cons_succ]
   refine qaj.tk 25 rfl 86 HS0.out (fun w' ⟨q0,q1,q2,q3,q4,q5,q6,q7⟩=>by go_simp;first|done|rfl) ?_
   try simp only[Act.put,List.setIfInBounds_toArray,List.set_cons_zero,List.set_cons_succ]
   refine qaj.tk 26 rfl 87 HS0.out (fun w' ⟨q0,q1,q2,q3,q4,q5,q6,q7⟩=>by go_simp;first|done|rfl) ?_
   try simp only[Act.put,List.setIfInBounds_toArray,List.set_cons_zero,List.set_cons_succ]
   refine qaj.tk 27 rfl 88 HS0.out (fun w' ⟨q0,q1,q2,q3,q4,q5,q6,q7⟩=>by go_simp;first|done|rfl) ?_
   try simp only[Act.put,List.setIfInBounds_toArray,List.set_cons_zero,List.set_cons_succ]
   refine qaj.tk 28 rfl 89 HS0.out (fun w' ⟨q0,q1,q2,q3,q4,q5,q6,q7⟩=>by go_simp;first|done|rfl) ?_
   try simp only[Act.put,List.setIfInBounds_toArray,List.set_cons_zero,List.set_cons_succ]
   refine qaj.tk 29 rfl 90 HS0.out (fun w' ⟨q0,q1,q2,q3,q4,q5,q6,q7⟩=>by go_simp;first|done|rfl) ?_
   try simp only[Act.put,List.setIfInBounds_toArray,List.set_cons_zero,List.set_cons_succ]
   refine qaj.tk 30 rfl 91 HS0.out (fun w' ⟨q0,q1,q2,q3,q4,q5,q6,q7⟩=>by go_simp;first|done|rfl) ?_
   try simp only[Act.put,List.setIfInBounds_toArray,List.set_cons_zero,List.set_cons_succ]
   refine qaj.tk 31 rfl 92 HS0.out (fun w' ⟨q0,q1,q2,q3,q4,q5,q6,q7⟩=>by go_simp;first|done|rfl) ?_
   try simp only[Act.put,List.setIfInBounds_toArray,List.set_cons_zero,List.set_cons_succ]
   obtain⟨s0,s1⟩:=FD.out.fr.slotN (i:=0) (by simp) rfl (k:=c) (by rw[hIS];exact hcK);have F2:Hid (FrP w5 [(.slice (some ⟨gi,0,none⟩) KK KK,3,qab (IS.set c 1)),(.slice (some ⟨gy,0,none⟩) ATY.length yac,3,qab ATY),(.slice yo Y.length yc,3,qab Y),(.slice (some ⟨gx,0,none⟩) ATX.length xac,3,qab ATX),(.slice xo X.length xc,3,qab X),(.slice (some ⟨bx,0,none⟩) 3 3,24,[.string ⟨bs.toArray⟩,.slice xa XN.length xnc,(.slice none 0 0)]),(.slice xa XN.length xnc,3,qab XN),((.slice none 0 0),3,qab [])] (.slice (some ⟨lg,0,none⟩) St.length lc0) (spP St) (.slice none 0 0) [] (wd.setCell ⟨gi,c,none⟩ (.int .i64 1))):=by
    have:=FD.out.store (i:=0) (by simp) rfl c (.int .i64 ((1:Nat):Int));rw[qbq] at this;exact this
   refine qaj.last (by kernel_rfl) rfl (by kernel_rfl) (by kernel_rfl) (fun K hK=>?_);go_simp;refine hK _ _ ?_;clear hK K s0 s1 FD HS0;generalize wd.setCell ⟨gi,c,none⟩ (.int .i64 1)=wu at *;go_wp2;go_roundg (St.length-(i+1)+1)
   case measure=>have:=HG.out;omega
   case rel=>exact⟨i+1,_,by first|rfl|go_num|(congr 1;omega),by omega,F2,S2,by rw[List.length_set];exact hIS,by omega⟩
  ·obtain rfl:i=St.length:=by omega
   have hi':¬(St.length:Int)<(St.length:Int):=by omega
   have S0:Hid (LbI CL 0 [] IS):=by have h:=S.out;rw[←HCN.out] at h;exact h.done
   clear S HG hi hi1;go_wp2;go_loopg [17,18] (KK+1) (fun g x y wr=>∃(n:Nat) (Q IS:List Nat) (pv:Value),pv=x∧y=.int .i64 (n:Nat)∧n≤KK∧Hid (FrP w5 [(.slice (some ⟨gi,0,none⟩) KK KK,3,qab IS),(.slice yao ATY.length yac,3,qab ATY),(.slice yo Y.length yc,3,qab Y),(.slice xao ATX.length xac,3,qab ATX),(.slice xo X.length xc,3,qab X),(.slice (some ⟨bx,0,none⟩) 3 3,24,[.string ⟨bs.toArray⟩,.slice xa XN.length xnc,(.slice none 0 0)]),(.slice xa XN.length xnc,3,qab XN),((.slice none 0 0),3,qab [])] (.slice la0 St.length lc0) (spP St) pv (Q.map (prL X Y)) wr)∧Hid (LbI CL n Q IS)∧IS.length=KK∧KK-n<g)
   case atStart=>exact⟨0,[],IS,_,rfl,rfl,by omega,F,S0,hIS,by omega⟩
   case round=>
    clear F S0 hIS;obtain⟨n,Q,IS,pv,rfl,rfl,hn1,F,S,hIS,hg⟩:=hrel;have HG:=qaa hg;clear hg;by_cases hn:n<KK
    ·as_aux_lemma=>
     have hnI:(n:Int)<(KK:Int):=by omega
     obtain⟨s0,s1⟩:=F.out.fr.slotN (i:=0) (by simp) rfl (k:=n) (by rw[hIS];exact hn);have hfl:=S.out.flag (by rw[hIS];exact hn);have hQl:Q.length≤n:=S.out.len;by_cases hm:n∈CL
     ·as_aux_lemma=>
      rw[hfl.2 hm] at s0;have S2:=qaa (S.out.step_in (by rw[hIS];exact hn) hm);have hY0:0<Y.length:=by
       rcases Nat.eq_zero_or_pos Y.length with h|h
       ·have:=HKK.out
        rw[h] at this;omega
       ·exact h
      have hq:n/Y.length<X.length:=Nat.div_lt_of_lt_mul (by have:=HKK.out;rw[Nat.mul_comm] at this;omega);have hr:n%Y.length<Y.length:=Nat.mod_lt _ hY0;have hqI:((n/Y.length:Nat):Int)<(X.length:Int):=Int.ofNat_lt.2 hq;have hrI:((n%Y.length:Nat):Int)<(Y.length:Int):=Int.ofNat_lt.2 hr;obtain⟨gxx,ex,-,-⟩:=F.out.fr.cell (i:=4) (by simp) rfl (k:=n/Y.length) (by rw[qaf];exact hq);obtain⟨gyy,ey,-,-⟩:=F.out.fr.cell (i:=2) (by simp) rfl (k:=n%Y.length) (by rw[qaf];exact hr);subst ex ey;obtain⟨xq,hxq⟩:∃xq,xq=gN X (n/Y.length):=⟨_,rfl⟩;obtain⟨yq,hyq⟩:∃yq,yq=gN Y (n%Y.length):=⟨_,rfl⟩;have HPR:Hid (prL X Y n=((xq:Int),(yq:Int))):=by unfold Hid prL;rw[hxq,hyq]
      have HSE2:Hid (∀(IS:List Nat) (pv:Value) (P:List Spn) V,FrP w5 [(.slice (some ⟨gi,0,none⟩) KK KK,3,qab IS),(.slice yao ATY.length yac,3,qab ATY),(.slice (some ⟨gyy,0,none⟩) Y.length yc,3,qab Y),(.slice xao ATX.length xac,3,qab ATX),(.slice (some ⟨gxx,0,none⟩) X.length xc,3,qab X),(.slice (some ⟨bx,0,none⟩) 3 3,24,[.string ⟨bs.toArray⟩,.slice xa XN.length xnc,(.slice none 0 0)]),(.slice xa XN.length xnc,3,qab XN),((.slice none 0 0),3,qab [])] (.slice la0 St.length lc0) (spP St) pv P V→(fun V=>V.cell? ⟨gxx,n/Y.length,none⟩=some (.int .i64 (xq:Int))∧V.cell? ⟨gyy,n%Y.length,none⟩=some (.int .i64 (yq:Int))) V):=fun IS pv P V F=>by
       rw[hxq,hyq];exact⟨(F.fr.slotN (i:=4) (by simp) rfl hq).1,(F.fr.slotN (i:=2) (by simp) rfl hr).1⟩
      clear hxq hyq S hfl hm;have hm0:¬(Y.length:Int)=0:=by omega
      have hm4:¬Y=[]:=List.ne_nil_of_length_pos hY0;have hm1:((Y.length:Int)==0)=false:=beq_eq_false_iff_ne.2 hm0;have f5:(n:Int).tdiv (Y.length:Int)=((n/Y.length:Nat):Int):=by rw[Int.tdiv_eq_ediv_of_nonneg (by omega)];rfl
      have f6:(n:Int).tmod (Y.length:Int)=((n%Y.length:Nat):Int):=by rw[Int.tmod_eq_emod_of_nonneg (by omega)];rfl
      have hd1:n/Y.length≤n:=Nat.div_le_self _ _;have hd2:n%Y.length≤n:=Nat.mod_le _ _;have f7:IntKind.i64.wrap ((n/Y.length:Nat):Int)=((n/Y.length:Nat):Int):=qak _ (by omega);have f8:IntKind.i64.wrap ((n%Y.length:Nat):Int)=((n%Y.length:Nat):Int):=qak _ (by omega);have hm3:0<Y.length:=hY0;generalize n/Y.length=nq at *;generalize n%Y.length=nr at *;go_wp2;have FD:Hid (FrP w5 [(.slice (some ⟨gi,0,none⟩) KK KK,3,qab IS),(.slice yao ATY.length yac,3,qab ATY),(.slice (some ⟨gyy,0,none⟩) Y.length yc,3,qab Y),(.slice xao ATX.length xac,3,qab ATX),(.slice (some ⟨gxx,0,none⟩) X.length xc,3,qab X),(.slice (some ⟨bx,0,none⟩) 3 3,24,[.string ⟨bs.toArray⟩,.slice xa XN.length xnc,(.slice none 0 0)]),(.slice xa XN.length xnc,3,qab XN),((.slice none 0 0),3,qab [])] (.slice la0 St.length lc0) (spP St) pv (Q.map (prL X Y)) wr.drew):=F.out.drew 1;clear F s0 s1;refine qco (S:=fun V=>V.cell? ⟨gxx,nq,none⟩=some (.int .i64 (xq:Int))∧V.cell? ⟨gyy,nr,none⟩=some (.int .i64 (yq:Int))) 18 (by kernel_rfl) ?_;generalize wr.drew=wd at *;have HS0:Hid ((fun V=>V.cell? ⟨gxx,nq,none⟩=some (.int .i64 (xq:Int))∧V.cell? ⟨gyy,nr,none⟩=some (.int .i64 (yq:Int))) wd):=HSE2.out _ _ _ wd FD.out;refine qaj.tk 0 rfl 104 HS0.out (fun w' ⟨q0,q1⟩=>by go_simp;first|done|rfl) ?_
      try simp only[Act.put,List.setIfInBounds_toArray,List.set_cons_zero,List.set_cons_succ]
      refine qaj.tk 1 rfl 105 HS0.out (fun w' ⟨q0,q1⟩=>by go_simp;first|done|rfl) ?_
      try simp only[Act.put,List.setIfInBounds_toArray,List.set_cons_zero,List.set_cons_succ]
      refine qaj.tk 2 rfl 106 HS0.out (fun w' ⟨q0,q1⟩=>by go_simp;first|done|rfl) ?_
      try simp only[Act.put,List.setIfInBounds_toArray,List.set_cons_zero,List.set_cons_succ]
      refine qaj.tk 3 rfl 107 HS0.out (fun w' ⟨q0,q1⟩=>by go_simp;first|done|rfl) ?_
      try simp only[Act.put,List.setIfInBounds_toArray,List.set_cons_zero,List.set_cons_succ]
      refine qaj.tk 4 rfl 108 HS0.out (fun w' ⟨q0,q1⟩=>by go_simp;first|done|rfl) ?_
      try simp only[Act.put,List.setIfInBounds_toArray,List.set_cons_zero,List.set_cons_succ]
      refine qaj.tk 5 rfl 109 HS0.out (fun w' ⟨q0,q1⟩=>by go_simp;first|done|rfl) ?_
      try simp only[Act.put,List.setIfInBounds_toArray,List.set_cons_zero,List.set_cons_succ]
      refine qaj.tk 6 rfl 110 HS0.out (fun w' ⟨q0,q1⟩=>by go_simp;first|done|rfl) ?_
      try simp only[Act.put,List.setIfInBounds_toArray,List.set_cons_zero,List.set_cons_succ]
      refine qaj.tk 7 rfl 111 HS0.out (fun w' ⟨q0,q1⟩=>by go_simp;first|done|rfl) ?_
      try simp only[Act.put,List.setIfInBounds_toArray,List.set_cons_zero,List.set_cons_succ]
      refine qaj.tk 8 rfl 112 HS0.out (fun w' ⟨q0,q1⟩=>by go_simp;first|done|rfl) ?_
      try simp only[Act.put,List.setIfInBounds_toArray,List.set_cons_zero,List.set_cons_succ]
      refine qaj.tk 9 rfl 113 HS0.out (fun w' ⟨q0,q1⟩=>by go_simp;first|done|rfl) ?_
      try simp only[Act.put,List.setIfInBounds_toArray,List.set_cons_zero,List.set_cons_succ]
      refine qaj.tk 10 rfl 114 HS0.out (fun w' ⟨q0,q1⟩=>by go_simp;first|done|rfl) ?_
      try simp only[Act.put,List.setIfInBounds_toArray,List.set_cons_zero,List.set_cons_succ]
      refine qaj.tk 11 rfl 115 HS0.out (fun w' ⟨q0,q1⟩=>by go_simp;first|done|rfl) ?_
      try simp only[Act.put,List.setIfInBounds_toArray,List.set_cons_zero,List.set_cons_succ]
      refine qaj.tk 12 rfl 116 HS0.out (fun w' ⟨q0,q1⟩=>by go_simp;first|done|rfl) ?_
      try simp only[Act.put,List.setIfInBounds_toArray,List.set_cons_zero,List.set_cons_succ]
      refine qaj.tk 13 rfl 117 HS0.out (fun w' ⟨q0,q1⟩=>by go_simp;first|done|rfl) ?_
      try simp only[Act.put,List.setIfInBounds_toArray,List.set_cons_zero,List.set_cons_succ]
      refine qaj.tk 14 rfl 118 HS0.out (fun w' ⟨q0,q1⟩=>by go_simp;first|done|rfl) ?_
      try simp only[Act.put,List.setIfInBounds_toArray,List.set_cons_zero,List.set_cons_succ]
      refine qaj.tk 15 rfl 119 HS0.out (fun w' ⟨q0,q1⟩=>by go_simp;first|done|rfl) ?_
      try simp only[Act.put,List.setIfInBounds_toArray,List.set_cons_zero,List.set_cons_succ]
      obtain⟨k1,k2,k3⟩:=FD.out.pre ((xq:Int),(yq:Int));rw[List.length_map] at k1;have Q1:Hid ((wd.alloc (.cells #[.int .i64 (xq:Int),.int .i64 (yq:Int)] 48)).ownsRow w5.heap.size 48 2 pv Q.length (qam (Q.map (prL X Y)))):=k1;have Q2:Hid (∀(j:Nat) (u:Value),[Value.int .i64 (xq:Int),.int .i64 (yq:Int)][j]? =some u→(wd.alloc (.cells #[.int .i64 (xq:Int),.int .i64 (yq:Int)] 48)).cell? ((⟨wd.heap.size,0,none⟩:Addr).add j)=some u):=k2;have Q3:Hid (w5.heap.size≤(wd.alloc (.cells #[.int .i64 (xq:Int),.int .i64 (yq:Int)] 48)).heap.size):=k3;have YD:Hid (Below wd.heap.size wd (wd.alloc (.cells #[.int .i64 (xq:Int),.int .i64 (yq:Int)] 48))):=al (Below.refl _ _) _;have HS1:Hid ((fun V=>V.cell? ⟨gxx,nq,none⟩=some (.int .i64 (xq:Int))∧V.cell? ⟨gyy,nr,none⟩=some (.int .i64 (yq:Int))) (wd.alloc (.cells #[.int .i64 (xq:Int),.int .i64 (yq:Int)] 48))):=HSE2.out _ _ _ _ (FD.out.below YD.out);have HPU:Hid (∀(g7 cap7:Nat) (w7:World),w7.ownsRow w5.heap.size 48 2 (.slice (some ⟨g7,0,none⟩) (Q.length+1) cap7) (Q.length+1) (qam (Q.map (prL X Y))++[.int .i64 (xq:Int),.int .i64 (yq:Int)])→(wd.alloc (.cells #[.int .i64 (xq:Int),.int .i64 (yq:Int)] 48)).grownBy w7 pv.ownBlock→(pv.ownBlock=some g7∨g7=(wd.alloc (.cells #[.int .i64 (xq:Int),.int .i64 (yq:Int)] 48)).heap.size)→FrP w5 [(.slice (some ⟨gi,0,none⟩) KK KK,3,qab IS),(.slice yao ATY.length yac,3,qab ATY),(.slice (some ⟨gyy,0,none⟩) Y.length yc,3,qab Y),(.slice xao ATX.length xac,3,qab ATX),(.slice (some ⟨gxx,0,none⟩) X.length xc,3,qab X),(.slice (some ⟨bx,0,none⟩) 3 3,24,[.string ⟨bs.toArray⟩,.slice xa XN.length xnc,(.slice none 0 0)]),(.slice xa XN.length xnc,3,qab XN),((.slice none 0 0),3,qab [])] (.slice la0 St.length lc0) (spP St) (.slice (some ⟨g7,0,none⟩) (Q.length+1) cap7) ((Q++[n]).map (prL X Y)) w7):=fun g7 cap7 w7 h1 h2 h3=>by
       have:=FD.out.push2 (al (Below.refl _ _) _) ((xq:Int),(yq:Int)) (g6:=g7) (cap6:=cap7) (by rw[List.length_map];exact h1) h2 h3;rw[List.length_append,List.length_map,List.length_singleton] at this;rw[List.map_append,List.map_singleton,HPR.out];exact this
      clear k1 k2 k3;refine qaj.step (i:=16) (by kernel_rfl) rfl (fun K hK=>?_);go_simp;refine hK _ _ HS1.out ?_;clear hK K;refine qaj.step (i:=17) (by kernel_rfl) rfl (fun K hK=>?_);refine step_append_lies _ (by rfl) (.tmp 104) (.tmp 120) 44 (by rfl) w5.heap.size 48 i48 (.agg #[.int .i64 0,.int .i64 0]) 2 16 Tryz.underlying44 hi48 hz480 hz481 hz482 rfl (by decide) _ Q.length (qam (Q.map (prL X Y))) (by rfl) Q1.out ⟨wd.heap.size,0,none⟩ 1 1 [.int .i64 (xq:Int),.int .i64 (yq:Int)] (by rfl) (by rfl) Q2.out (by simp[Value.oneCell']) (by decide) (by unfold maxLen;omega) (by omega) Q3.out _ rfl ?_;intro g7 cap7 w7 h1 h2 h3 h4;have F7:=qaa (HPU.out g7 cap7 w7 h1 h2 h3);have HS2:Hid ((fun V=>V.cell? ⟨gxx,nq,none⟩=some (.int .i64 (xq:Int))∧V.cell? ⟨gyy,nr,none⟩=some (.int .i64 (yq:Int))) w7):=HSE2.out _ _ _ w7 F7.out;refine hK _ _ HS2.out ?_
      try simp only[Act.put,List.setIfInBounds_toArray]
      clear hK K h1 h2 h3 h4 HPU Q1 Q2 Q3 YD HS0 HS1 FD HSE2;refine qaj.last (by kernel_rfl) rfl (by kernel_rfl) (by kernel_rfl) (fun K hK=>?_);go_simp;refine hK _ _ ?_;clear hK K HS2 f5 f6 f7 f8;obtain⟨s0,s1⟩:=F7.out.fr.slotN (i:=0) (by simp) rfl (k:=n) (by rw[hIS];exact hn);have F8:Hid (FrP w5 [(.slice (some ⟨gi,0,none⟩) KK KK,3,qab (IS.set n (Q.length+1))),(.slice yao ATY.length yac,3,qab ATY),(.slice (some ⟨gyy,0,none⟩) Y.length yc,3,qab Y),(.slice xao ATX.length xac,3,qab ATX),(.slice (some ⟨gxx,0,none⟩) X.length xc,3,qab X),(.slice (some ⟨bx,0,none⟩) 3 3,24,[.string ⟨bs.toArray⟩,.slice xa XN.length xnc,(.slice none 0 0)]),(.slice xa XN.length xnc,3,qab XN),((.slice none 0 0),3,qab [])] (.slice la0 St.length lc0) (spP St) (.slice (some ⟨g7,0,none⟩) (Q.length+1) cap7) ((Q++[n]).map (prL X Y)) (w7.setCell ⟨gi,n,none⟩ (.int .i64 ((Q.length:Int)+1)))):=by
       have:=F7.out.store (i:=0) (by simp) rfl n (.int .i64 ((Q.length+1:Nat):Int));rw[qbq] at this;exact this
      clear F7;go_upto_region 16 with fail
      clear s0 s1;generalize w7.setCell ⟨gi,n,none⟩ (.int .i64 ((Q.length:Int)+1))=w8 at *;go_wp2;go_roundg (KK-(n+1)+1)
      case measure=>have:=HG.out;omega
      case rel=>exact⟨n+1,Q++[n],IS.set n (Q.length+1),_,rfl,by first|rfl|go_num|(congr 1;omega),by omega,F8,S2,by rw[List.length_set];exact hIS,by omega⟩
     ·as_aux_lemma=>
      have hq1:¬gN IS n=1:=fun h=>hm (hfl.1 h)
      have S2:=qaa (S.out.step_out hm);clear hfl hm S;generalize gN IS n=q at *;have hq2:¬(q:Int)=1:=by omega
      have hq3:((q:Int)==1)=false:=beq_eq_false_iff_ne.2 hq2;go_wp2;go_roundg (KK-(n+1)+1)
      case measure=>have:=HG.out;omega
      case rel=>exact⟨n+1,Q,IS,_,rfl,by first|rfl|go_num|(congr 1;omega),by omega,F,S2,hIS,by omega⟩
    ·as_aux_lemma=>
     have hnk:KK=n:=by omega
     subst hnk;have hnI:¬(KK:Int)<(KK:Int):=by omega
     have HIS:=qaa hIS;have HQ:Hid (LbI CL IS.length Q IS):=by have h:=S.out;rw[←hIS] at h;exact h
     have HRO:Hid (RoS (lpL OA OB St) (Q.map (prL X Y))):=qo0 HLX.out HLY.out HUX.out HUY.out HST.out (hIS.trans HKK.out) (by rw[←HCL.out];exact HQ.out);have HPL:Hid (Plc (Q.map (prL X Y)) (lpL OA OB St) (plO IS CL) St.length):=by
      have h:=qo2 HLX.out HLY.out HUX.out HUY.out HST.out (hIS.trans HKK.out) (by rw[←HCL.out];exact HQ.out)
      rwa [←HCL.out] at h
     have HAT:Hid (∀i,i<St.length→0<gN IS (gN CL i)∧gN IS (gN CL i)-1<Q.length):=fun i hi=>by
      have h:=qo1 HLX.out HLY.out HUX.out HUY.out HST.out (hIS.trans HKK.out) (by rw[←HCL.out];exact HQ.out) hi;rw[(HCI.out i hi).1];exact⟨h.1,h.2.1⟩
     have HPN:Hid (Q.length≤65536):=by
      have h:=HRO.out.le;rw[qb3,List.length_map] at h;unfold Hid;omega
     have O0:Hid (([]:List Nat)=plO IS (CL.take 0)):=by unfold Hid;simp[plO]
     clear S HG hn hn1;go_wp2;go_loopg [19] (St.length+1) (fun g y wr=>∃(i:Nat) (O:List Nat) (ov:Value),y=.int .i64 (i:Nat)∧i≤St.length∧Hid (O=plO IS (CL.take i))∧Hid (FrP w5 [(.slice (some ⟨gi,0,none⟩) KK KK,3,qab IS),(.slice yao ATY.length yac,3,qab ATY),(.slice yo Y.length yc,3,qab Y),(.slice xao ATX.length xac,3,qab ATX),(.slice xo X.length xc,3,qab X),(.slice (some ⟨bx,0,none⟩) 3 3,24,[.string ⟨bs.toArray⟩,.slice xa XN.length xnc,ov]),(.slice xa XN.length xnc,3,qab XN),(ov,3,qab O)] (.slice la0 St.length lc0) (spP St) pv (Q.map (prL X Y)) wr)∧St.length-i<g)
     case atStart=>exact⟨0,[],_,rfl,by omega,O0,F,by omega⟩
     case round=>
      clear F O0;obtain⟨i,O,ov,rfl,hi1,HO,F,hg⟩:=hrel;have HG:=qaa hg;clear hg;by_cases hi:i<St.length
      ·as_aux_lemma=>
       obtain⟨lg,gx,gy,ab,ao,bb,bo,p1,p2,xl,yl,tx,ty,rfl,rfl,rfl,rfl,rfl,hp1,hp2,hx1,hy1,ht1,ht2,ht3,ht4,hcd,HS⟩:=HSE.out _ _ _ _ _ _ _ F.out i hi;have hi':(i:Int)<(St.length:Int):=by omega
       have hp1I:(p1:Int)<(OA.length:Int):=by omega
       have hp2I:(p2:Int)<(OB.length:Int):=by omega
       have hx1I:(xl:Int)<(ATX.length:Int):=by omega
       have hy1I:(yl:Int)<(ATY.length:Int):=by omega
       have hcK:=(HCI.out i hi).2;obtain⟨c,hc⟩:∃c,c=gN CL i:=⟨_,rfl⟩;have HCC:=qaa hc;rw[←hc] at hcd hcK;clear hc;have hcKI:(c:Int)<(KK:Int):=by omega
       obtain⟨ix,hix⟩:∃ix,ix=tx-1:=⟨_,rfl⟩;rw[←hix] at hcd;have hmI:ix*Y.length≤4294967296:=by
        have:ix*Y.length≤65536*65536:=Nat.mul_le_mul (by omega) hYl;omega
       obtain⟨z1,hz1⟩:∃z:Int,z=(ix:Int)*(Y.length:Int):=⟨_,rfl⟩;have hz1':z1=((ix*Y.length:Nat):Int):=by rw[hz1];simp
       obtain⟨z2,hz2⟩:∃z:Int,z=z1+(ty:Int):=⟨_,rfl⟩;have f1:IntKind.i64.wrap ((tx:Int)-1)=(ix:Int):=by rw[show(tx:Int)-1=(ix:Int) by omega];exact qak _ (by omega)
       have f2:IntKind.i64.wrap ((ix:Int)*(Y.length:Int))=z1:=by rw[←hz1,hz1'];exact qak _ (by omega)
       have f3:IntKind.i64.wrap (z1+(ty:Int))=z2:=by rw[←hz2,show z2=((ix*Y.length+ty:Nat):Int) by omega];exact qak _ (by omega)
       have f4:IntKind.i64.wrap (z2-1)=(c:Int):=by rw[show z2-1=(c:Int) by omega];exact qak _ (by omega)
       clear hix hz1 hz1' hz2 hmI hcd;have hat:=HAT.out i hi;rw[←HCC.out] at hat;have HO2:Hid (O++[gN IS c-1]=plO IS (CL.take (i+1))):=by unfold Hid;rw[HO.out,HCC.out];exact qly (by rw[HCN.out];exact hi)
       have hOl:O.length≤65536:=by
        rw[HO.out,qhe,List.length_take];omega
       obtain⟨sq,hsq⟩:∃sq,sq=gN IS c:=⟨_,rfl⟩;have HSQ:=qaa hsq;rw[←hsq] at hat HO2;obtain⟨q,hq⟩:∃q,q=sq-1:=⟨_,rfl⟩;rw[←hq] at HO2 hat;have hpn:=HPN.out;have f5:IntKind.i64.wrap ((sq:Int)-1)=(q:Int):=by rw[show(sq:Int)-1=(q:Int) by omega];exact qak _ (by omega)
       clear hsq hq;have HSE4:Hid (∀(oo:Value) (OO:List Nat) V,FrP w5 [(.slice (some ⟨gi,0,none⟩) KK KK,3,qab IS),(.slice (some ⟨gy,0,none⟩) ATY.length yac,3,qab ATY),(.slice yo Y.length yc,3,qab Y),(.slice (some ⟨gx,0,none⟩) ATX.length xac,3,qab ATX),(.slice xo X.length xc,3,qab X),(.slice (some ⟨bx,0,none⟩) 3 3,24,[.string ⟨bs.toArray⟩,.slice xa XN.length xnc,ov]),(.slice xa XN.length xnc,3,qab XN),(oo,3,qab OO)] (.slice (some ⟨lg,0,none⟩) St.length lc0) (spP St) pv (Q.map (prL X Y)) V→(fun V=>V.cell? ⟨w.heap.size,2,none⟩=some (.slice (some ⟨ab,ao,none⟩) OA.length oAc)∧V.cell? ⟨w.heap.size+1,2,none⟩=some (.slice (some ⟨bb,bo,none⟩) OB.length oBc)∧V.cell? ⟨lg,i*2,none⟩=some (.int .i64 (p1:Int))∧V.cell? ⟨lg,i*2+1,none⟩=some (.int .i64 (p2:Int))∧V.cell? ⟨ab,ao+p1,none⟩=some (.int .i64 (xl:Int))∧V.cell? ⟨bb,bo+p2,none⟩=some (.int .i64 (yl:Int))∧V.cell? ⟨gx,xl,none⟩=some (.int .i64 (tx:Int))∧V.cell? ⟨gy,yl,none⟩=some (.int .i64 (ty:Int))∧V.cell? ⟨bx,2,none⟩=some ov∧V.cell? ⟨gi,c,none⟩=some (.int .i64 (sq:Int))) V):=fun oo OO V F=>by
        obtain⟨z0,-⟩:=F.fr.slot (i:=5) (by simp) rfl (k:=2) (by simp);simp only[List.getElem_cons_succ,List.getElem_cons_zero] at z0;have z1:=(F.fr.slotN (i:=0) (by simp) rfl (k:=c) (by rw[HIS.out];exact hcK)).1;rw[←HSQ.out] at z1;obtain⟨y0,y1,y2,y3,y4,y5,y6,y7⟩:=HS.out IS OO oo ov pv _ V F;exact⟨y0,y1,y2,y3,y4,y5,y6,y7,z0,z1⟩
       go_wp2;have FD:Hid (FrP w5 [(.slice (some ⟨gi,0,none⟩) KK KK,3,qab IS),(.slice (some ⟨gy,0,none⟩) ATY.length yac,3,qab ATY),(.slice yo Y.length yc,3,qab Y),(.slice (some ⟨gx,0,none⟩) ATX.length xac,3,qab ATX),(.slice xo X.length xc,3,qab X),(.slice (some ⟨bx,0,none⟩) 3 3,24,[.string ⟨bs.toArray⟩,.slice xa XN.length xnc,ov]),(.slice xa XN.length xnc,3,qab XN),(ov,3,qab O)] (.slice (some ⟨lg,0,none⟩) St.length lc0) (spP St) pv (Q.map (prL X Y)) wr.drew):=F.out.drew 1;clear F;refine qco (S:=fun V=>V.cell? ⟨w.heap.size,2,none⟩=some (.slice (some ⟨ab,ao,none⟩) OA.length oAc)∧V.cell? ⟨w.heap.size+1,2,none⟩=some (.slice (some ⟨bb,bo,none⟩) OB.length oBc)∧V.cell? ⟨lg,i*2,none⟩=some (.int .i64 (p1:Int))∧V.cell? ⟨lg,i*2+1,none⟩=some (.int .i64 (p2:Int))∧V.cell? ⟨ab,ao+p1,none⟩=some (.int .i64 (xl:Int))∧V.cell? ⟨bb,bo+p2,none⟩=some (.int .i64 (yl:Int))∧V.cell? ⟨gx,xl,none⟩=some (.int .i64 (tx:Int))∧V.cell? ⟨gy,yl,none⟩=some (.int .i64 (ty:Int))∧V.cell? ⟨bx,2,none⟩=some ov∧V.cell? ⟨gi,c,none⟩=some (.int .i64 (sq:Int))) 39 (by kernel_rfl) ?_;generalize wr.drew=wd at *;have HS0:Hid ((fun V=>V.cell? ⟨w.heap.size,2,none⟩=some (.slice (some ⟨ab,ao,none⟩) OA.length oAc)∧V.cell? ⟨w.heap.size+1,2,none⟩=some (.slice (some ⟨bb,bo,none⟩) OB.length oBc)∧V.cell? ⟨lg,i*2,none⟩=some (.int .i64 (p1:Int))∧V.cell? ⟨lg,i*2+1,none⟩=some (.int .i64 (p2:Int))∧V.cell? ⟨ab,ao+p1,none⟩=some (.int .i64 (xl:Int))∧V.cell? ⟨bb,bo+p2,none⟩=some (.int .i64 (yl:Int))∧V.cell? ⟨gx,xl,none⟩=some (.int .i64 (tx:Int))∧V.cell? ⟨gy,yl,none⟩=some (.int .i64 (ty:Int))∧V.cell? ⟨bx,2,none⟩=some ov∧V.cell? ⟨gi,c,none⟩=some (.int .i64 (sq:Int))) wd):=HSE4.out _ _ wd FD.out;refine qaj.tk 0 rfl 133 HS0.out (fun w' ⟨q0,q1,q2,q3,q4,q5,q6,q7,q8,q9⟩=>by go_simp;first|done|rfl) ?_
       try simp only[Act.put,List.setIfInBounds_toArray,List.set_cons_zero,List.set_cons_succ]
       refine qaj.tk 1 rfl 134 HS0.out (fun w' ⟨q0,q1,q2,q3,q4,q5,q6,q7,q8,q9⟩=>by go_simp;first|done|rfl) ?_
       try simp only[Act.put,List.setIfInBounds_toArray,List.set_cons_zero,List.set_cons_succ]
       refine qaj.tk 2 rfl 135 HS0.out (fun w' ⟨q0,q1,q2,q3,q4,q5,q6,q7,q8,q9⟩=>by go_simp;first|done|rfl) ?_
       try simp only[Act.put,List.setIfInBounds_toArray,List.set_cons_zero,List.set_cons_succ]
       refine qaj.tk 3 rfl 136 HS0.out (fun w' ⟨q0,q1,q2,q3,q4,q5,q6,q7,q8,q9⟩=>by go_simp;first|done|rfl) ?_
       try simp only[Act.put,List.setIfInBounds_toArray,List.set_cons_zero,List.set_cons_succ]
       refine qaj.tk 4 rfl 137 HS0.out (fun w' ⟨q0,q1,q2,q3,q4,q5,q6,q7,q8,q9⟩=>by go_simp;first|done|rfl) ?_
       try simp only[Act.put,List.setIfInBounds_toArray,List.set_cons_zero,List.set_cons_succ]
       refine qaj.tk 5 rfl 138 HS0.out (fun w' ⟨q0,q1,q2,q3,q4,q5,q6,q7,q8,q9⟩=>by go_simp;first|done|rfl) ?_
       try simp only[Act.put,List.setIfInBounds_toArray,List.set_cons_zero,List.set_cons_succ]
       refine qaj.tk 6 rfl 139 HS0.out (fun w' ⟨q0,q1,q2,q3,q4,q5,q6,q7,q8,q9⟩=>by go_simp;first|done|rfl) ?_
       try simp only[Act.put,List.setIfInBounds_toArray,List.set_cons_zero,List.set_cons_succ]
       refine qaj.tk 7 rfl 140 HS0.out (fun w' ⟨q0,q1,q2,q3,q4,q5,q6,q7,q8,q9⟩=>by go_simp;first|done|rfl) ?_
       try simp only[Act.put,List.setIfInBounds_toArray,List.set_cons_zero,List.set_cons_succ]
       refine qaj.tk 8 rfl 141 HS0.out (fun w' ⟨q0,q1,q2,q3,q4,q5,q6,q7,q8,q9⟩=>by go_simp;first|done|rfl) ?_
       try simp only[Act.put,List.setIfInBounds_toArray,List.set_cons_zero,List.set_cons_succ]
       refine qaj.tk 9 rfl 142 HS0.out (fun w' ⟨q0,q1,q2,q3,q4,q5,q6,q7,q8,q9⟩=>by go_simp;first|done|rfl) ?_
       try simp only[Act.put,List.setIfInBounds_toArray,List.set_cons_zero,List.set_cons_succ]
       refine qaj.tk 10 rfl 143 HS0.out (fun w' ⟨q0,q1,q2,q3,q4,q5,q6,q7,q8,q9⟩=>by go_simp;first|done|rfl) ?_
       try simp only[Act.put,List.setIfInBounds_toArray,List.set_cons_zero,List.set_cons_succ]
       refine qaj.tk 11 rfl 144 HS0.out (fun w' ⟨q0,q1,q2,q3,q4,q5,q6,q7,q8,q9⟩=>by go_simp;first|done|rfl) ?_
       try simp only[Act.put,List.setIfInBounds_toArray,List.set_cons_zero,List.set_cons_succ]
       refine qaj.tk 12 rfl 145 HS0.out (fun w' ⟨q0,q1,q2,q3,q4,q5,q6,q7,q8,q9⟩=>by go_simp;first|done|rfl) ?_
       try simp only[Act.put,List.setIfInBounds_toArray,List.set_cons_zero,List.set_cons_succ]
       refine qaj.tk 13 rfl 146 HS0.out (fun w' ⟨q0,q1,q2,q3,q4,q5,q6,q7,q8,q9⟩=>by go_simp;first|done|rfl) ?_
       try simp only[Act.put,List.setIfInBounds_toArray,List.set_cons_zero,List.set_cons_succ]
       refine qaj.tk 14 rfl 147 HS0.out (fun w' ⟨q0,q1,q2,q3,q4,q5,q6,q7,q8,q9⟩=>by go_simp;first|done|rfl) ?_
       try simp only[Act.put,List.setIfInBounds_toArray,List.set_cons_zero,List.set_cons_succ]
       refine qaj.tk 15 rfl 148 HS0.out (fun w' ⟨q0,q1,q2,q3,q4,q5,q6,q7,q8,q9⟩=>by go_simp;first|done|rfl) ?_
       try simp only[Act.put,List.setIfInBounds_toArray,List.set_cons_zero,List.set_cons_succ]
       refine qaj.tk 16 rfl 149 HS0.out (fun w' ⟨q0,q1,q2,q3,q4,q5,q6,q7,q8,q9⟩=>by go_simp;first|done|rfl) ?_
       try simp only[Act.put,List.setIfInBounds_toArray,List.set_cons_zero,List.set_cons_succ]
       refine qaj.tk 17 rfl 150 HS0.out (fun w' ⟨q0,q1,q2,q3,q4,q5,q6,q7,q8,q9⟩=>by go_simp;first|done|rfl) ?_
       try simp only[Act.put,List.setIfInBounds_toArray,List.set_cons_zero,List.set_cons_succ]
       refine qaj.tk 18 rfl 151 HS0.out (fun w' ⟨q0,q1,q2,q3,q4,q5,q6,q7,q8,q9⟩=>by go_simp;first|done|rfl) ?_
       try simp only[Act.put,List.setIfInBounds_toArray,List.set_cons_zero,List.set_cons_succ]
       refine qaj.tk 19 rfl 152 HS0.out (fun w' ⟨q0,q1,q2,q3,q4,q5,q6,q7,q8,q9⟩=>by go_simp;first|done|rfl) ?_
       try simp only[Act.put,List.setIfInBounds_toArray,List.set_cons_zero,List.set_cons_succ]
       refine qaj.tk 20 rfl 153 HS0.out (fun w' ⟨q0,q1,q2,q3,q4,q5,q6,q7,q8,q9⟩=>by go_simp;first|done|rfl) ?_
       try simp only[Act.put,List.setIfInBounds_toArray,List.set_cons_zero,List.set_cons_succ]
       refine qaj.tk 21 rfl 154 HS0.out (fun w' ⟨q0,q1,q2,q3,q4,q5,q6,q7,q8,q9⟩=>by go_simp;first|done|rfl) ?_
       try simp only[Act.put,List.setIfInBounds_toArray,List.set_cons_zero,List.set_cons_succ]
       refine qaj.tk 22 rfl 155 HS0.out (fun w' ⟨q0,q1,q2,q3,q4,q5,q6,q7,q8,q9⟩=>by go_simp;first|done|rfl) ?_
       try simp only[Act.put,List.setIfInBounds_toArray,List.set_cons_zero,List.set_cons_succ]
       refine qaj.tk 23 rfl 156 HS0.out (fun w' ⟨q0,q1,q2,q3,q4,q5,q6,q7,q8,q9⟩=>by go_simp;first|done|rfl) ?_
       try simp only[Act.put,List.setIfInBounds_toArray,List.set_cons_zero,List.set_cons_succ]
       refine qaj.tk 24 rfl 157 HS0.out (fun w' ⟨q0,q1,q2,q3,q4,q5,q6,q7,q8,q9⟩=>by go_simp;first|done|rfl) ?_
       try simp only[Act.put,List.setIfInBounds_toArray,List.set_cons_zero,List.set_cons_succ]
       refine qaj.tk 25 rfl 158 HS0.out (fun w' ⟨q0,q1,q2,q3,q4,q5,q6,q7,q8,q9⟩=>by go_simp;first|done|rfl) ?_
       try simp only[Act.put,List.setIfInBounds_toArray,List.set_cons_zero,List.set_cons_succ]
       refine qaj.tk 26 rfl 159 HS0.out (fun w' ⟨q0,q1,q2,q3,q4,q5,q6,q7,q8,q9⟩=>by go_simp;first|done|rfl) ?_
       try simp only[Act.put,List.setIfInBounds_toArray,List.set_cons_zero,List.set_cons_succ]
       refine qaj.tk 27 rfl 160 HS0.out (fun w' ⟨q0,q1,q2,q3,q4,q5,q6,q7,q8,q9⟩=>by go_simp;first|done|rfl) ?_
       try simp only[Act.put,List.setIfInBounds_toArray,List.set_cons_zero,List.set_cons_succ]
       refine qaj.tk 28 rfl 161 HS0.out (fun w' ⟨q0,q1,q2,q3,q4,q5,q6,q7,q8,q9⟩=>by go_simp;first|done|rfl) ?_
       try simp only[Act.put,List.setIfInBounds_toArray,List.set_cons_zero,List.set_cons_succ]
       refine qaj.tk 29 rfl 162 HS0.out (fun w' ⟨q0,q1,q2,q3,q4,q5,q6,q7,q8,q9⟩=>by go_simp;first|done|rfl) ?_
       try simp only[Act.put,List.setIfInBounds_toArray,List.set_cons_zero,List.set_cons_succ]
       refine qaj.tk 30 rfl 163 HS0.out (fun w' ⟨q0,q1,q2,q3,q4,q5,q6,q7,q8,q9⟩=>by go_simp;first|done|rfl) ?_
       try simp only[Act.put,List.setIfInBounds_toArray,List.set_cons_zero,List.set_cons_succ]
       refine qaj.tk 31 rfl 164 HS0.out (fun w' ⟨q0,q1,q2,q3,q4,q5,q6,q7,q8,q9⟩=>by go_simp;first|done|rfl) ?_
       try simp only[Act.put,List.setIfInBounds_toArray,List.set_cons_zero,List.set_cons_succ]
       refine qaj.tk 32 rfl 165 HS0.out (fun w' ⟨q0,q1,q2,q3,q4,q5,q6,q7,q8,q9⟩=>by go_simp;first|done|rfl) ?_
       try simp only[Act.put,List.setIfInBounds_toArray,List.set_cons_zero,List.set_cons_succ]
       refine qaj.tk 33 rfl 166 HS0.out (fun w' ⟨q0,q1,q2,q3,q4,q5,q6,q7,q8,q9⟩=>by go_simp;first|done|rfl) ?_
       try simp only[Act.put,List.setIfInBounds_toArray,List.set_cons_zero,List.set_cons_succ]
       refine qaj.tk 34 rfl 167 HS0.out (fun w' ⟨q0,q1,q2,q3,q4,q5,q6,q7,q8,q9⟩=>by go_simp;first|done|rfl) ?_
       try simp only[Act.put,List.setIfInBounds_toArray,List.set_cons_zero,List.set_cons_succ]
       refine qaj.tk 35 rfl 168 HS0.out (fun w' ⟨q0,q1,q2,q3,q4,q5,q6,q7,q8,q9⟩=>by go_simp;first|done|rfl) ?_
       try simp only[Act.put,List.setIfInBounds_toArray,List.set_cons_zero,List.set_cons_succ]
       obtain⟨k1,k2,k3⟩:=FD.out.fr.pre (i:=7) (by simp) rfl ((q:Nat):Int);have Q1:Hid ((wd.alloc (.cells #[.int .i64 (q:Int)] 3)).ownsRow w5.heap.size 3 1 ov O.length (qab O)):=k1;have Q2:Hid (∀(j:Nat) (u:Value),[Value.int .i64 (q:Int)][j]? =some u→(wd.alloc (.cells #[.int .i64 (q:Int)] 3)).cell? ((⟨wd.heap.size,0,none⟩:Addr).add j)=some u):=k2;have Q3:Hid (w5.heap.size≤(wd.alloc (.cells #[.int .i64 (q:Int)] 3)).heap.size):=k3;have YD:Hid (Below wd.heap.size wd (wd.alloc (.cells #[.int .i64 (q:Int)] 3))):=al (Below.refl _ _) _;have HS1:Hid ((fun V=>V.cell? ⟨w.heap.size,2,none⟩=some (.slice (some ⟨ab,ao,none⟩) OA.length oAc)∧V.cell? ⟨w.heap.size+1,2,none⟩=some (.slice (some ⟨bb,bo,none⟩) OB.length oBc)∧V.cell? ⟨lg,i*2,none⟩=some (.int .i64 (p1:Int))∧V.cell? ⟨lg,i*2+1,none⟩=some (.int .i64 (p2:Int))∧V.cell? ⟨ab,ao+p1,none⟩=some (.int .i64 (xl:Int))∧V.cell? ⟨bb,bo+p2,none⟩=some (.int .i64 (yl:Int))∧V.cell? ⟨gx,xl,none⟩=some (.int .i64 (tx:Int))∧V.cell? ⟨gy,yl,none⟩=some (.int .i64 (ty:Int))∧V.cell? ⟨bx,2,none⟩=some ov∧V.cell? ⟨gi,c,none⟩=some (.int .i64 (sq:Int))) (wd.alloc (.cells #[.int .i64 (q:Int)] 3))):=HSE4.out _ _ _ (FD.out.below YD.out);have HPU:Hid (∀(g7 cap7:Nat) (w7:World),w7.ownsRow w5.heap.size 3 1 (.slice (some ⟨g7,0,none⟩) (O.length+1) cap7) (O.length+1) (qab O++[.int .i64 (q:Int)])→(wd.alloc (.cells #[.int .i64 (q:Int)] 3)).grownBy w7 ov.ownBlock→(ov.ownBlock=some g7∨g7=(wd.alloc (.cells #[.int .i64 (q:Int)] 3)).heap.size)→FrP w5 [(.slice (some ⟨gi,0,none⟩) KK KK,3,qab IS),(.slice (some ⟨gy,0,none⟩) ATY.length yac,3,qab ATY),(.slice yo Y.length yc,3,qab Y),(.slice (some ⟨gx,0,none⟩) ATX.length xac,3,qab ATX),(.slice xo X.length xc,3,qab X),(.slice (some ⟨bx,0,none⟩) 3 3,24,[.string ⟨bs.toArray⟩,.slice xa XN.length xnc,ov]),(.slice xa XN.length xnc,3,qab XN),((.slice (some ⟨g7,0,none⟩) (O.length+1) cap7),3,qab (O++[q]))] (.slice (some ⟨lg,0,none⟩) St.length lc0) (spP St) pv (Q.map (prL X Y)) w7):=fun g7 cap7 w7 h1 h2 h3=>by
        rw[qa1];have:=FD.out.lies (al (Below.refl _ _) _) (i:=7) (by simp) rfl (g6:=g7) (cap6:=cap7) (x:=.int .i64 ((q:Nat):Int)) (by rw[qaf];exact h1) h2 h3;rw[qaf] at this;exact this
       clear k1 k2 k3;refine qaj.step (i:=36) (by kernel_rfl) rfl (fun K hK=>?_);go_simp;refine hK _ _ HS1.out ?_;clear hK K;refine qaj.step (i:=37) (by kernel_rfl) rfl (fun K hK=>?_);refine step_append_lies _ (by rfl) (.tmp 134) (.tmp 169) 22 (by rfl) w5.heap.size 3 i3 (.int .i64 0) 1 8 Tryz.underlying22 hi3 hz30 hz31 hz32 rfl (by decide) _ O.length (qab O) (by rfl) Q1.out ⟨wd.heap.size,0,none⟩ 1 1 [.int .i64 (q:Int)] (by rfl) (by rfl) Q2.out (by simp[Value.oneCell']) (by decide) (by unfold maxLen;omega) (by omega) Q3.out _ rfl ?_;intro g7 cap7 w7 h1 h2 h3 h4;have F7:=qaa (HPU.out g7 cap7 w7 h1 h2 h3);have HS2:Hid ((fun V=>V.cell? ⟨w.heap.size,2,none⟩=some (.slice (some ⟨ab,ao,none⟩) OA.length oAc)∧V.cell? ⟨w.heap.size+1,2,none⟩=some (.slice (some ⟨bb,bo,none⟩) OB.length oBc)∧V.cell? ⟨lg,i*2,none⟩=some (.int .i64 (p1:Int))∧V.cell? ⟨lg,i*2+1,none⟩=some (.int .i64 (p2:Int))∧V.cell? ⟨ab,ao+p1,none⟩=some (.int .i64 (xl:Int))∧V.cell? ⟨bb,bo+p2,none⟩=some (.int .i64 (yl:Int))∧V.cell? ⟨gx,xl,none⟩=some (.int .i64 (tx:Int))∧V.cell? ⟨gy,yl,none⟩=some (.int .i64 (ty:Int))∧V.cell? ⟨bx,2,none⟩=some ov∧V.cell? ⟨gi,c,none⟩=some (.int .i64 (sq:Int))) w7):=HSE4.out _ _ w7 F7.out;refine hK _ _ HS2.out ?_;refine qaj.tk 38 rfl 171 HS2.out (fun w' ⟨q0,q1,q2,q3,q4,q5,q6,q7,q8,q9⟩=>by go_simp;first|done|rfl) ?_
       try simp only[Act.put,List.setIfInBounds_toArray]
       clear hK K h1 h2 h3 h4 HPU Q1 Q2 Q3 YD HS0 HS1 HSE4 FD;obtain⟨z0,z1⟩:=F7.out.fr.slot (i:=5) (by simp) rfl (k:=2) (by simp);simp only[List.getElem_cons_succ,List.getElem_cons_zero] at z0;have F8:Hid (FrP w5 [(.slice (some ⟨gi,0,none⟩) KK KK,3,qab IS),(.slice (some ⟨gy,0,none⟩) ATY.length yac,3,qab ATY),(.slice yo Y.length yc,3,qab Y),(.slice (some ⟨gx,0,none⟩) ATX.length xac,3,qab ATX),(.slice xo X.length xc,3,qab X),(.slice (some ⟨bx,0,none⟩) 3 3,24,[.string ⟨bs.toArray⟩,.slice xa XN.length xnc,(.slice (some ⟨g7,0,none⟩) (O.length+1) cap7)]),(.slice xa XN.length xnc,3,qab XN),((.slice (some ⟨g7,0,none⟩) (O.length+1) cap7),3,qab (O++[q]))] (.slice (some ⟨lg,0,none⟩) St.length lc0) (spP St) pv (Q.map (prL X Y)) (w7.setCell ⟨bx,2,none⟩ (.slice (some ⟨g7,0,none⟩) (O.length+1) cap7))):=F7.out.store (i:=5) (by simp) rfl 2 _;refine qaj.last (by kernel_rfl) rfl (by kernel_rfl) (by kernel_rfl) (fun K hK=>?_);go_simp;refine hK _ _ ?_;clear hK K z0 z1 F7 HS2;generalize w7.setCell ⟨bx,2,none⟩ (.slice (some ⟨g7,0,none⟩) (O.length+1) cap7)=wy at *;go_wp2;go_roundg (St.length-(i+1)+1)
       case measure=>have:=HG.out;omega
       case rel=>exact⟨i+1,O++[q],_,by first|rfl|go_num|(congr 1;omega),by omega,HO2,F8,by omega⟩
      ·as_aux_lemma=>
       have hi':¬(i:Int)<(St.length:Int):=by omega
       obtain rfl:i=St.length:=by omega
       have HOO:Hid (O=plO IS CL):=by have:=HO.out;rwa [←HCN.out,List.take_length] at this
       obtain⟨oa2,oc2,hov,KO⟩:=F.out.fr.nat (i:=7) (by simp) rfl;subst hov;obtain⟨xa2,xc2,hxv,KX⟩:=F.out.fr.nat (i:=6) (by simp) rfl;simp only[Value.slice.injEq] at hxv;obtain⟨e1,-,e3⟩:=hxv;subst e1 e3;obtain⟨pa,pc,epv⟩:=F.out.shape;rw[List.length_map] at epv;have HEP:=qaa epv;obtain⟨d0,-⟩:=F.out.fr.slot (i:=5) (by simp) rfl (k:=0) (by simp);obtain⟨d1,-⟩:=F.out.fr.slot (i:=5) (by simp) rfl (k:=1) (by simp);obtain⟨d2,-⟩:=F.out.fr.slot (i:=5) (by simp) rfl (k:=2) (by simp);simp only[List.getElem_cons_succ,List.getElem_cons_zero] at d0 d1 d2;have HPO:Hid (Plc (Q.map (prL X Y)) (lpL OA OB St) O St.length):=by rw[HOO.out];exact HPL.out
       have HMM:Hid (qbv bs XN O∧qcr bs (zN XN) (zN O)):=by
        rw[HBS.out];exact qox HNF.out HQ1.out HED.out hSl HPO.out.1 (HPO.out.lb (by rw[List.length_map];exact HPN.out))
       have HJT:Hid (JnT (dfA bsA NA OA) (dfA bsB NB OB) (dfA bs XN O) (Q.map (prL X Y))):=by
        rw[HBS.out];exact⟨HRO.out.up,qlw HNF.out HED.out HRO.out,qow HNF.out HQ1.out (fun b c _ _ e=>qnw b c e) HED.out HPO.out⟩
       have hOl:O.length≤65536:=HMM.out.1.n1;have hXN:XN.length≤16777216:=by
        have h1:=HMM.out.1.wl;have h2:O.length*(XN.length/O.length)≤65536*256:=Nat.mul_le_mul hOl HMM.out.1.w1;omega
       have HLD:=qaa (qdi bs xa oa2 xnc oc2 (zN XN) (zN O) wr (by rw[qal];omega) (by rw[qal];omega) KX.raw KO.raw);unfold auV at HLD;rw[qal,qal] at HLD;have XW:=qaa (bt X5.out F.out.fr.bel (Nat.le_refl _));have HQ2:=qaa F.out.q2;have hw5:=(HC.out w5 X5.out).2.2.2.2.2;have hwr:=(HC.out wr XW.out).2.2.2.2.2;have h5r:=F.out.fr.bel.size;clear F KX KO;go_wp2_with (fail);refine HLD.out.mono ?_;rintro e w7 ⟨hP,x7⟩;have X7:=qaa x7;have hO:qhb bs XN O wr.heap.size e w7:=by
        rcases hP with⟨hno,_⟩|⟨NX',OU',e1,e2,hM,_,hO⟩
        ·exact absurd HMM.out.2 hno
        ·obtain rfl:=qa2 e1
         obtain rfl:=qa2 e2;exact hO
       have HI:Hid ((Tryz.prog.info? 24).map (·.size)=some 3):=by unfold Hid;kernel_rfl
       clear hP x7 HLD d0 d1 d2;rcases hO with⟨cs,ya,yn,yc2,za,zn,zc,rfl,NX',OU',hD⟩|⟨rfl,hN⟩
       ·as_aux_lemma=>
        have HD:=qaa hD;clear hD;unfold auV;go_upto_region 25 with fail
        obtain⟨w8,hw8⟩:∃w8,w8=w7.alloc (.cells #[.string ⟨cs.toArray⟩,.slice ya yn yc2,.slice za zn zc] 24):=⟨_,rfl⟩;obtain⟨bq,hby⟩:∃bq,bq=w7.heap.size:=⟨_,rfl⟩;have Y8:Hid (Below w7.heap.size w7 w8):=by unfold Hid;rw[hw8];exact al (Below.refl _ _) _
        have B8:w8.heap[bq]? =some (.cells #[.string ⟨cs.toArray⟩,.slice ya yn yc2,.slice za zn zc] 24 (0,0)):=by rw[hw8,hby];exact heap_alloc_new _ _
        rw[←hw8,←hby];clear hw8 hby;have XR:=qaa (bt XW.out (bt X7.out Y8.out (Nat.le_refl _)) (Nat.le_refl _));have BR:=(HC.out w8 XR.out).2.2.1;have HBR:=qaa BR;have A4:Hid ((#[.string ⟨cs.toArray⟩,.slice ya yn yc2,.slice za zn zc]:Array Value).all (·.oneCell')=true):=by unfold Hid;simp[Value.oneCell']
        have B9:=setRow_heap w8 (w.heap.size+2) _ #[.string ⟨cs.toArray⟩,.slice ya yn yc2,.slice za zn zc] 24 (0,0) BR;have k9:Kept (fun k=>k=w.heap.size+2) w8 (w8.setRow (w.heap.size+2) #[.string ⟨cs.toArray⟩,.slice ya yn yc2,.slice za zn zc]):=qas;have x9:=bt HX3.out XR.out (Nat.le_refl _);have X9:=qaa (x9.trans (k9.below x9.size (fun b hb=>by omega)));have HPF:Hid (JnP (dfA bsA NA OA) (dfA bsB NB OB) w.heap.size (.returned (.tuple #[.agg #[.string ⟨cs.toArray⟩,.slice ya yn yc2,.slice za zn zc],.slice pa Q.length pc,.int .i64 0])) (w8.setRow (w.heap.size+2) #[.string ⟨cs.toArray⟩,.slice ya yn yc2,.slice za zn zc])):=by
         refine .inr ⟨cs,ya,yn,yc2,za,zn,zc,NX',OU',pa,pc,Q.map (prL X Y),by rw[List.length_map],?_,?_,HD.out.may,HD.out.rt,HD.out.n,⟨HJT.out.up,HJT.out.rch,fun t ht=>by rw[HD.out.lb t ht];exact HJT.out.lab t ht⟩⟩
         ·have r:=(HD.out.rws.below Y8.out).kept k9 (fun j hj b hb e=>by
           have:=(World.ownsRow.lt (show w7.ownsRow wr.heap.size 3 1 _ _ (qab _) from HD.out.rws.own j hj) b hb).1;omega)
          exact⟨fun j hj=>(r.own j hj).mono' (by omega),r.ap⟩
         ·have r:=own_below (own_below HQ2.out X7.out) Y8.out
          rw[HEP.out] at r;rw[List.length_map];refine qa3.mono (qai r k9 fun b hb hf=>?_) (show w.heap.size≤w5.heap.size by omega);have:=(World.ownsRow.lt r b hb).1;omega
        have z0:=cell_of_row _ _ 0 _ _ _ B9;have z1:=cell_of_row _ _ 1 _ _ _ B9;have z2:=cell_of_row _ _ 2 _ _ _ B9;have e0:=cell_of_row _ _ 0 _ _ _ B8;have e1:=cell_of_row _ _ 1 _ _ _ B8;have e2:=cell_of_row _ _ 2 _ _ _ B8;clear B8 B9 k9 BR x9;go_wp2_with (refine wpList_store_row rfl 24 (.tmp 4) (.tmp 181) rfl (w.heap.size+2) #[.string ⟨cs.toArray⟩,.slice ya yn yc2,.slice za zn zc] rfl rfl 24 #[.string ⟨#[]⟩,.slice none 0 0,.slice none 0 0] HBR.out HI.out rfl A4.out ?_);refine bodyPost_ret (by simp[results,Tryz.results24,go_sem,z0,z1,z2];try rfl) rfl ?_;exact⟨HPF.out,X9.out⟩
       ·as_aux_lemma=>
        have HD:=qaa hN;clear hN;unfold auV;go_upto_region 25 with fail
        obtain⟨w8,hw8⟩:∃w8,w8=w7.alloc (.cells #[.string ⟨#[]⟩,.slice none 0 0,.slice none 0 0] 24):=⟨_,rfl⟩;obtain⟨bq,hby⟩:∃bq,bq=w7.heap.size:=⟨_,rfl⟩;have Y8:Hid (Below w7.heap.size w7 w8):=by unfold Hid;rw[hw8];exact al (Below.refl _ _) _
        have B8:w8.heap[bq]? =some (.cells #[.string ⟨#[]⟩,.slice none 0 0,.slice none 0 0] 24 (0,0)):=by rw[hw8,hby];exact heap_alloc_new _ _
        rw[←hw8,←hby];clear hw8 hby;have XR:=qaa (bt XW.out (bt X7.out Y8.out (Nat.le_refl _)) (Nat.le_refl _));have BR:=(HC.out w8 XR.out).2.2.1;have HBR:=qaa BR;have A4:Hid ((#[.string ⟨#[]⟩,.slice none 0 0,.slice none 0 0]:Array Value).all (·.oneCell')=true):=by unfold Hid;simp[Value.oneCell']
        have B9:=setRow_heap w8 (w.heap.size+2) _ #[.string ⟨#[]⟩,.slice none 0 0,.slice none 0 0] 24 (0,0) BR;have k9:Kept (fun k=>k=w.heap.size+2) w8 (w8.setRow (w.heap.size+2) #[.string ⟨#[]⟩,.slice none 0 0,.slice none 0 0]):=qas;have x9:=bt HX3.out XR.out (Nat.le_refl _);have X9:=qaa (x9.trans (k9.below x9.size (fun b hb=>by omega)));have HPF:Hid (JnP (dfA bsA NA OA) (dfA bsB NB OB) w.heap.size (.returned (.tuple #[.agg #[.string ⟨#[]⟩,.slice none 0 0,.slice none 0 0],.slice none 0 0,.int .i64 2])) (w8.setRow (w.heap.size+2) #[.string ⟨#[]⟩,.slice none 0 0,.slice none 0 0])):=.inl ⟨HD.out.jn HJT.out,rfl⟩;have z0:=cell_of_row _ _ 0 _ _ _ B9;have z1:=cell_of_row _ _ 1 _ _ _ B9;have z2:=cell_of_row _ _ 2 _ _ _ B9;have e0:=cell_of_row _ _ 0 _ _ _ B8;have e1:=cell_of_row _ _ 1 _ _ _ B8;have e2:=cell_of_row _ _ 2 _ _ _ B8;clear B8 B9 k9 BR x9;go_wp2_with (refine wpList_store_row rfl 24 (.tmp 4) (.tmp 179) rfl (w.heap.size+2) #[.string ⟨#[]⟩,.slice none 0 0,.slice none 0 0] rfl rfl 24 #[.string ⟨#[]⟩,.slice none 0 0,.slice none 0 0] HBR.out HI.out rfl A4.out ?_);refine bodyPost_ret (by simp[results,Tryz.results24,go_sem,z0,z1,z2];try rfl) rfl ?_;exact⟨HPF.out,X9.out⟩
end Go.Proofs.YtdgoilkgplnhfaaGreat

