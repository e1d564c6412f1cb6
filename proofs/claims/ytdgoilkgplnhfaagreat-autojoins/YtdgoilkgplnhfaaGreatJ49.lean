/-
  Join of any two automata, the program's and the document's, by one contract. Condition: lists no longer than a process can hold.
-/
import Derived.Test.YtdgoilkgplnhfaaGreatJ45
import Derived.Test.YtdgoilkgplnhfaaGreatJ46
import Derived.Test.YtdgoilkgplnhfaaGreatJ48
import Derived.Test.YtdgoilkgplnhfaaGreatJ43
namespace Go.Proofs.YtdgoilkgplnhfaaGreat
open Go.RowKit Go.Lib Go.Maps
def JnZ (bsA:By) (NA OA:List Int) (bsB:By) (NB OB:List Int) (base:Nat) (e:Ending) (w:World):Prop:=
 (¬(qay bsA NA OA∧qay bsB NB OB)∧e=.returned (.tuple #[.agg #[.string ⟨#[]⟩,.slice none 0 0,.slice none 0 0],.slice none 0 0,.int .i64 1]))∨qay bsA NA OA∧qay bsB NB OB∧∃(PA QA PB QB:List Nat),NA=zN PA∧OA=zN QA∧NB=zN PB∧OB=zN QB∧JnP (dfA bsA PA QA) (dfA bsB PB QB) base e w
set_option maxRecDepth 100000 in
set_option maxHeartbeats 4000000 in
theorem qkl (bsA bsB:By) (xA oA xB oB:Option Addr) (xAc oAc xBc oBc:Nat) (NA OA NB OB:List Int) (w:World) (l1:NA.length≤140737488351232) (l2:OA.length≤140737488351232) (l3:NB.length≤140737488351232) (l4:OB.length≤140737488351232) (h1:ZAt w xA NA) (h2:ZAt w oA OA) (h3:ZAt w xB NB) (h4:ZAt w oB OB) (hno:¬(qay bsA NA OA∧qay bsB NB OB)):
 Calls Tryz.prog 23 #[auV bsA xA NA.length xAc oA OA.length oAc,auV bsB xB NB.length xBc oB OB.length oBc] w fun e w'=>e=.returned (.tuple #[.agg #[.string ⟨#[]⟩,.slice none 0 0,.slice none 0 0],.slice none 0 0,.int .i64 1])∧Below w.heap.size w w':=by
 obtain⟨w2,hw2⟩:∃w2,w2=(w.alloc (.cells #[.string ⟨bsA.toArray⟩,.slice xA NA.length xAc,.slice oA OA.length oAc] 24)).alloc (.cells #[.string ⟨bsB.toArray⟩,.slice xB NB.length xBc,.slice oB OB.length oBc] 24):=⟨_,rfl⟩;obtain⟨X2,B1,B2,hs2⟩:=qap w #[.string ⟨bsA.toArray⟩,.slice xA NA.length xAc,.slice oA OA.length oAc] #[.string ⟨bsB.toArray⟩,.slice xB NB.length xBc,.slice oB OB.length oBc] 24 24;rw[←hw2] at X2 B1 B2 hs2;have X3:Below w2.heap.size w2 (w2.alloc (.cells #[.string ⟨#[]⟩,.slice none 0 0,.slice none 0 0] 24)):=al (Below.refl _ _) _;have B3:=heap_alloc_new w2 (.cells #[.string ⟨#[]⟩,.slice none 0 0,.slice none 0 0] 24);rw[hs2] at B3;obtain⟨w3,hw3⟩:∃w3,w3=w2.alloc (.cells #[.string ⟨#[]⟩,.slice none 0 0,.slice none 0 0] 24):=⟨_,rfl⟩;rw[←hw3] at X3 B3;have X03:=bt X2 X3 (Nat.le_refl _);have HC:Hid (∀V,Below w3.heap.size w3 V→(V.cell? ⟨w.heap.size,0,none⟩=some (.string ⟨bsA.toArray⟩)∧V.cell? ⟨w.heap.size,1,none⟩=some (.slice xA NA.length xAc)∧V.cell? ⟨w.heap.size,2,none⟩=some (.slice oA OA.length oAc))∧(V.cell? ⟨w.heap.size+1,0,none⟩=some (.string ⟨bsB.toArray⟩)∧V.cell? ⟨w.heap.size+1,1,none⟩=some (.slice xB NB.length xBc)∧V.cell? ⟨w.heap.size+1,2,none⟩=some (.slice oB OB.length oBc))∧V.heap[w.heap.size+2]? =some (.cells #[.string ⟨#[]⟩,.slice none 0 0,.slice none 0 0] 24 (0,0))∧ZAt V xA NA∧ZAt V oA OA∧ZAt V xB NB∧ZAt V oB OB∧w.heap.size+2<V.heap.size):=fun V x=>by
  have y:=bt X3 x (Nat.le_refl _);have z:=bt X03 x (Nat.le_refl _);have Bv:=(y.block _ (lt_of_block B1)).trans B1;have Bw:=(y.block _ (lt_of_block B2)).trans B2;have Bz:=(x.block _ (lt_of_block B3)).trans B3;exact⟨⟨by rw[cell_of_row _ _ _ _ _ _ Bv];rfl,by rw[cell_of_row _ _ _ _ _ _ Bv];rfl,by rw[cell_of_row _ _ _ _ _ _ Bv];rfl⟩,⟨by rw[cell_of_row _ _ _ _ _ _ Bw];rfl,by rw[cell_of_row _ _ _ _ _ _ Bw];rfl,by rw[cell_of_row _ _ _ _ _ _ Bw];rfl⟩,Bz,h1.below z,h2.below z,h3.below z,h4.below z,lt_of_block Bz⟩
 have HX3:=qaa X03;have HI:Hid ((Tryz.prog.info? 24).map (·.size)=some 3):=by unfold Hid;kernel_rfl
 have A0:Hid ((#[.string ⟨#[]⟩,.slice none 0 0,.slice none 0 0]:Array Value).all (·.oneCell')=true):=by unfold Hid;simp[Value.oneCell']
 have HNO:Hid (∀V,Below w3.heap.size w3 V→(V.setRow (w.heap.size+2) #[.string ⟨#[]⟩,.slice none 0 0,.slice none 0 0]).cell? ⟨w.heap.size+2,0,none⟩=some (.string ⟨#[]⟩)∧(V.setRow (w.heap.size+2) #[.string ⟨#[]⟩,.slice none 0 0,.slice none 0 0]).cell? ⟨w.heap.size+2,1,none⟩=some (.slice none 0 0)∧(V.setRow (w.heap.size+2) #[.string ⟨#[]⟩,.slice none 0 0,.slice none 0 0]).cell? ⟨w.heap.size+2,2,none⟩=some (.slice none 0 0)∧Below w.heap.size w (V.setRow (w.heap.size+2) #[.string ⟨#[]⟩,.slice none 0 0,.slice none 0 0])):=fun V x=>by
  have B3:=(HC.out V x).2.2.1;have B6:=setRow_heap V (w.heap.size+2) _ #[.string ⟨#[]⟩,.slice none 0 0,.slice none 0 0] 24 (0,0) B3;have k6:Kept (fun k=>k=w.heap.size+2) V (V.setRow (w.heap.size+2) #[.string ⟨#[]⟩,.slice none 0 0,.slice none 0 0]):=qas;have x3:=bt HX3.out x (Nat.le_refl _);exact⟨by rw[cell_of_row _ _ _ _ _ _ B6];rfl,by rw[cell_of_row _ _ _ _ _ _ B6];rfl,by rw[cell_of_row _ _ _ _ _ _ B6];rfl,x3.trans (k6.below x3.size (fun b hb=>by omega))⟩
 have HN:=qaa hno;clear X2 B1 B2 hs2 X3 B3 X03 h1 h2 h3 h4 hno;obtain⟨⟨c0,c1,c2⟩,⟨d0,d1,d2⟩,_,k1,k2,_,_,_⟩:=HC.out w3 (Below.refl _ _);have HR1:=qaa (qby bsA xA oA xAc oAc NA OA w3 l1 l2 k1 k2);clear k1 k2;unfold auV at HR1 ⊢;go_enter Tryz.func23,Tryz.ntmps23;go_upto_region 1 with fail
 rw[←hw2,←hw3];rw[show w.heap.size+1+1=w.heap.size+2 from rfl];clear hw2 hw3;go_wp2_with (fail);refine HR1.out.mono ?_;rintro e w4 ⟨⟨b,rfl,hb⟩,x4⟩;have X4:=qaa x4;have HB1:=qaa hb;clear HR1 c0 c1 c2 d0 d1 d2 x4 hb;cases b with
 |false=>
  as_aux_lemma=>
  obtain⟨z0,z1,z2,z3⟩:=HNO.out w4 X4.out;have B3:=qaa (HC.out w4 X4.out).2.2.1;have X6:=qaa z3;clear z3;go_wp2_with (refine wpList_store_row rfl 24 (.tmp 4) (.tmp 27) rfl (w.heap.size+2) #[.string ⟨#[]⟩,.slice none 0 0,.slice none 0 0] rfl rfl 24 #[.string ⟨#[]⟩,.slice none 0 0,.slice none 0 0] B3.out HI.out rfl A0.out ?_);refine bodyPost_ret (by simp[results,Tryz.results23,go_sem,z0,z1,z2];try rfl) rfl ?_;exact⟨rfl,X6.out⟩
 |true=>
  as_aux_lemma=>
  have HT:=qaa (HB1.out.1 rfl);clear HB1;obtain⟨⟨c0,c1,c2⟩,⟨d0,d1,d2⟩,_,_,_,k1,k2,_⟩:=HC.out w4 X4.out;have HR2:=qaa (qby bsB xB oB xBc oBc NB OB w4 l3 l4 k1 k2);clear k1 k2;unfold auV at HR2;go_wp2_with (fail);refine HR2.out.mono ?_;rintro e w5 ⟨⟨b,rfl,hb⟩,x5⟩;have X5:=qaa (bt X4.out x5 (Nat.le_refl _));obtain rfl:b=false:=by
   cases b with
   |false=>rfl
   |true=>exact absurd ⟨HT.out,hb.1 rfl⟩ HN.out
  clear HR2 c0 c1 c2 d0 d1 d2 x5 hb;obtain⟨z0,z1,z2,z3⟩:=HNO.out w5 X5.out;have B3:=qaa (HC.out w5 X5.out).2.2.1;have X6:=qaa z3;clear z3;go_wp2_with (refine wpList_store_row rfl 24 (.tmp 4) (.tmp 27) rfl (w.heap.size+2) #[.string ⟨#[]⟩,.slice none 0 0,.slice none 0 0] rfl rfl 24 #[.string ⟨#[]⟩,.slice none 0 0,.slice none 0 0] B3.out HI.out rfl A0.out ?_);refine bodyPost_ret (by simp[results,Tryz.results23,go_sem,z0,z1,z2];try rfl) rfl ?_;exact⟨rfl,X6.out⟩
set_option maxRecDepth 100000 in
set_option maxHeartbeats 4000000 in
theorem qin (bsA bsB:By) (xA oA xB oB:Option Addr) (xAc oAc xBc oBc:Nat) (NA OA NB OB:List Int) (w:World) (l1:NA.length≤140737488351232) (l2:OA.length≤140737488351232) (l3:NB.length≤140737488351232) (l4:OB.length≤140737488351232) (h1:ZAt w xA NA) (h2:ZAt w oA OA) (h3:ZAt w xB NB) (h4:ZAt w oB OB) (hno:¬(qay bsA NA OA∧qay bsB NB OB)):
 Calls Tryz.prog 24 #[auV bsA xA NA.length xAc oA OA.length oAc,auV bsB xB NB.length xBc oB OB.length oBc] w fun e w'=>e=.returned (.tuple #[.agg #[.string ⟨#[]⟩,.slice none 0 0,.slice none 0 0],.slice none 0 0,.int .i64 1])∧Below w.heap.size w w':=by
 obtain⟨w2,hw2⟩:∃w2,w2=(w.alloc (.cells #[.string ⟨bsA.toArray⟩,.slice xA NA.length xAc,.slice oA OA.length oAc] 24)).alloc (.cells #[.string ⟨bsB.toArray⟩,.slice xB NB.length xBc,.slice oB OB.length oBc] 24):=⟨_,rfl⟩;obtain⟨X2,B1,B2,hs2⟩:=qap w #[.string ⟨bsA.toArray⟩,.slice xA NA.length xAc,.slice oA OA.length oAc] #[.string ⟨bsB.toArray⟩,.slice xB NB.length xBc,.slice oB OB.length oBc] 24 24;rw[←hw2] at X2 B1 B2 hs2;have X3:Below w2.heap.size w2 (w2.alloc (.cells #[.string ⟨#[]⟩,.slice none 0 0,.slice none 0 0] 24)):=al (Below.refl _ _) _;have B3:=heap_alloc_new w2 (.cells #[.string ⟨#[]⟩,.slice none 0 0,.slice none 0 0] 24);rw[hs2] at B3;obtain⟨w3,hw3⟩:∃w3,w3=w2.alloc (.cells #[.string ⟨#[]⟩,.slice none 0 0,.slice none 0 0] 24):=⟨_,rfl⟩;rw[←hw3] at X3 B3;have X03:=bt X2 X3 (Nat.le_refl _);have HC:Hid (∀V,Below w3.heap.size w3 V→(V.cell? ⟨w.heap.size,0,none⟩=some (.string ⟨bsA.toArray⟩)∧V.cell? ⟨w.heap.size,1,none⟩=some (.slice xA NA.length xAc)∧V.cell? ⟨w.heap.size,2,none⟩=some (.slice oA OA.length oAc))∧(V.cell? ⟨w.heap.size+1,0,none⟩=some (.string ⟨bsB.toArray⟩)∧V.cell? ⟨w.heap.size+1,1,none⟩=some (.slice xB NB.length xBc)∧V.cell? ⟨w.heap.size+1,2,none⟩=some (.slice oB OB.length oBc))∧V.heap[w.heap.size+2]? =some (.cells #[.string ⟨#[]⟩,.slice none 0 0,.slice none 0 0] 24 (0,0))∧ZAt V xA NA∧ZAt V oA OA∧ZAt V xB NB∧ZAt V oB OB∧w.heap.size+2<V.heap.size):=fun V x=>by
  have y:=bt X3 x (Nat.le_refl _);have z:=bt X03 x (Nat.le_refl _);have Bv:=(y.block _ (lt_of_block B1)).trans B1;have Bw:=(y.block _ (lt_of_block B2)).trans B2;have Bz:=(x.block _ (lt_of_block B3)).trans B3;exact⟨⟨by rw[cell_of_row _ _ _ _ _ _ Bv];rfl,by rw[cell_of_row _ _ _ _ _ _ Bv];rfl,by rw[cell_of_row _ _ _ _ _ _ Bv];rfl⟩,⟨by rw[cell_of_row _ _ _ _ _ _ Bw];rfl,by rw[cell_of_row _ _ _ _ _ _ Bw];rfl,by rw[cell_of_row _ _ _ _ _ _ Bw];rfl⟩,Bz,h1.below z,h2.below z,h3.below z,h4.below z,lt_of_block Bz⟩
 have HX3:=qaa X03;have HI:Hid ((Tryz.prog.info? 24).map (·.size)=some 3):=by unfold Hid;kernel_rfl
 have A0:Hid ((#[.string ⟨#[]⟩,.slice none 0 0,.slice none 0 0]:Array Value).all (·.oneCell')=true):=by unfold Hid;simp[Value.oneCell']
 have HNO:Hid (∀V,Below w3.heap.size w3 V→(V.setRow (w.heap.size+2) #[.string ⟨#[]⟩,.slice none 0 0,.slice none 0 0]).cell? ⟨w.heap.size+2,0,none⟩=some (.string ⟨#[]⟩)∧(V.setRow (w.heap.size+2) #[.string ⟨#[]⟩,.slice none 0 0,.slice none 0 0]).cell? ⟨w.heap.size+2,1,none⟩=some (.slice none 0 0)∧(V.setRow (w.heap.size+2) #[.string ⟨#[]⟩,.slice none 0 0,.slice none 0 0]).cell? ⟨w.heap.size+2,2,none⟩=some (.slice none 0 0)∧Below w.heap.size w (V.setRow (w.heap.size+2) #[.string ⟨#[]⟩,.slice none 0 0,.slice none 0 0])):=fun V x=>by
  have B3:=(HC.out V x).2.2.1;have B6:=setRow_heap V (w.heap.size+2) _ #[.string ⟨#[]⟩,.slice none 0 0,.slice none 0 0] 24 (0,0) B3;have k6:Kept (fun k=>k=w.heap.size+2) V (V.setRow (w.heap.size+2) #[.string ⟨#[]⟩,.slice none 0 0,.slice none 0 0]):=qas;have x3:=bt HX3.out x (Nat.le_refl _);exact⟨by rw[cell_of_row _ _ _ _ _ _ B6];rfl,by rw[cell_of_row _ _ _ _ _ _ B6];rfl,by rw[cell_of_row _ _ _ _ _ _ B6];rfl,x3.trans (k6.below x3.size (fun b hb=>by omega))⟩
 have HN:=qaa hno;clear X2 B1 B2 hs2 X3 B3 X03 h1 h2 h3 h4 hno;obtain⟨⟨c0,c1,c2⟩,⟨d0,d1,d2⟩,_,k1,k2,_,_,_⟩:=HC.out w3 (Below.refl _ _);have HR1:=qaa (qct bsA xA oA xAc oAc NA OA w3 l1 l2 k1 k2);clear k1 k2;unfold auV at HR1 ⊢;go_enter Tryz.func24,Tryz.ntmps24;go_upto_region 1 with fail
 rw[←hw2,←hw3];rw[show w.heap.size+1+1=w.heap.size+2 from rfl];clear hw2 hw3;go_upto_region 2 with(go_at_call 17;refine HR1.out.mono ?_;rintro e w4 ⟨⟨b,rfl,hb⟩,x4⟩;have X4:=qaa x4;have HB1:=qaa hb;clear x4 hb)
 clear HR1 c0 c1 c2 d0 d1 d2;obtain⟨⟨c0,c1,c2⟩,⟨d0,d1,d2⟩,_,_,_,k1,k2,_⟩:=HC.out w4 X4.out;have HR2:=qaa (qct bsB xB oB xBc oBc NB OB w4 l3 l4 k1 k2);clear k1 k2;unfold auV at HR2;go_upto_region 3 with(go_at_call 17;refine HR2.out.mono ?_;rintro e w5 ⟨⟨b2,rfl,hb⟩,x5⟩;have X5:=qaa (bt X4.out x5 (Nat.le_refl _));have HB2:=qaa hb;clear x5 hb)
 clear HR2 c0 c1 c2 d0 d1 d2;cases b with
 |false=>
  as_aux_lemma=>
  obtain⟨z0,z1,z2,z3⟩:=HNO.out w5 X5.out;have B3:=qaa (HC.out w5 X5.out).2.2.1;have X6:=qaa z3;clear z3;go_wp2_with (refine wpList_store_row rfl 24 (.tmp 4) (.tmp 32) rfl (w.heap.size+2) #[.string ⟨#[]⟩,.slice none 0 0,.slice none 0 0] rfl rfl 24 #[.string ⟨#[]⟩,.slice none 0 0,.slice none 0 0] B3.out HI.out rfl A0.out ?_);refine bodyPost_ret (by simp[results,Tryz.results24,go_sem,z0,z1,z2];try rfl) rfl ?_;exact⟨rfl,X6.out⟩
 |true=>
  as_aux_lemma=>
  obtain rfl:b2=false:=by
   cases b2 with
   |false=>rfl
   |true=>exact absurd ⟨HB1.out.1 rfl,HB2.out.1 rfl⟩ HN.out
  obtain⟨z0,z1,z2,z3⟩:=HNO.out w5 X5.out;have B3:=qaa (HC.out w5 X5.out).2.2.1;have X6:=qaa z3;clear z3;go_wp2_with (refine wpList_store_row rfl 24 (.tmp 4) (.tmp 32) rfl (w.heap.size+2) #[.string ⟨#[]⟩,.slice none 0 0,.slice none 0 0] rfl rfl 24 #[.string ⟨#[]⟩,.slice none 0 0,.slice none 0 0] B3.out HI.out rfl A0.out ?_);refine bodyPost_ret (by simp[results,Tryz.results24,go_sem,z0,z1,z2];try rfl) rfl ?_;exact⟨rfl,X6.out⟩
theorem qkm (bsA bsB:By) (xA oA xB oB:Option Addr) (xAc oAc xBc oBc:Nat) (NA OA NB OB:List Int) (w:World) (l1:NA.length≤140737488351232) (l2:OA.length≤140737488351232) (l3:NB.length≤140737488351232) (l4:OB.length≤140737488351232) (h1:ZAt w xA NA) (h2:ZAt w oA OA) (h3:ZAt w xB NB) (h4:ZAt w oB OB):
 Calls Tryz.prog 23 #[auV bsA xA NA.length xAc oA OA.length oAc,auV bsB xB NB.length xBc oB OB.length oBc] w fun e w'=>JnZ bsA NA OA bsB NB OB w.heap.size e w'∧Below w.heap.size w w':=by
 by_cases hR:qay bsA NA OA∧qay bsB NB OB
 ·have hR':=hR
  obtain⟨⟨n1,PA,QA,rfl,rfl,m1,r1⟩,n2,PB,QB,rfl,rfl,m2,r2⟩:=hR;rw[qal] at n1 n2;have:=qlv bsA bsB xA oA xB oB xAc oAc xBc oBc PA QA PB QB w ⟨m1,r1,n1,h1.nat,h2.nat⟩ ⟨m2,r2,n2,h3.nat,h4.nat⟩;rw[qal,qal,qal,qal];refine this.mono ?_;rintro e w' ⟨h,x⟩;exact⟨.inr ⟨hR'.1,hR'.2,PA,QA,PB,QB,rfl,rfl,rfl,rfl,h.jn r1 r2⟩,x⟩
 ·refine(qkl bsA bsB xA oA xB oB xAc oAc xBc oBc NA OA NB OB w l1 l2 l3 l4 h1 h2 h3 h4 hR).mono ?_
  rintro e w' ⟨h,x⟩;exact⟨.inl ⟨hR,h⟩,x⟩
theorem qio (bsA bsB:By) (xA oA xB oB:Option Addr) (xAc oAc xBc oBc:Nat) (NA OA NB OB:List Int) (w:World) (l1:NA.length≤140737488351232) (l2:OA.length≤140737488351232) (l3:NB.length≤140737488351232) (l4:OB.length≤140737488351232) (h1:ZAt w xA NA) (h2:ZAt w oA OA) (h3:ZAt w xB NB) (h4:ZAt w oB OB):
 Calls Tryz.prog 24 #[auV bsA xA NA.length xAc oA OA.length oAc,auV bsB xB NB.length xBc oB OB.length oBc] w fun e w'=>JnZ bsA NA OA bsB NB OB w.heap.size e w'∧Below w.heap.size w w':=by
 by_cases hR:qay bsA NA OA∧qay bsB NB OB
 ·have hR':=hR
  obtain⟨⟨n1,PA,QA,rfl,rfl,m1,r1⟩,n2,PB,QB,rfl,rfl,m2,r2⟩:=hR;rw[qal] at n1 n2;have:=qkh bsA bsB xA oA xB oB xAc oAc xBc oBc PA QA PB QB w ⟨m1,r1,n1,h1.nat,h2.nat⟩ ⟨m2,r2,n2,h3.nat,h4.nat⟩;rw[qal,qal,qal,qal];refine this.mono ?_;rintro e w' ⟨h,x⟩;exact⟨.inr ⟨hR'.1,hR'.2,PA,QA,PB,QB,rfl,rfl,rfl,rfl,h⟩,x⟩
 ·refine(qin bsA bsB xA oA xB oB xAc oAc xBc oBc NA OA NB OB w l1 l2 l3 l4 h1 h2 h3 h4 hR).mono ?_
  rintro e w' ⟨h,x⟩;exact⟨.inl ⟨hR,h⟩,x⟩
theorem JnT.few {A B E:DF} {P:List Spn} (h:JnT A B E P) (hE:E.Ok):P.length≤E.n:=by
 have hx:∀i:Nat,∃s:Nat,i<P.length→s<E.n∧E.ou s=(i:Int):=fun i=>by
  by_cases hi:i<P.length
  ·obtain⟨t,ht,e⟩:=h.rch (gQ P i) (by rw[qch hi];exact List.getElem_mem hi)
   obtain⟨j,j1,j2,j3⟩:=h.lab t ht;have e2:j=i:=qhd h.up j2 hi (by rw[j3,e]);subst e2;exact⟨E.run 0 t,fun _=>⟨hE.run hE.n0 ht,j1⟩⟩
  ·exact⟨0,fun h=>absurd h hi⟩
 obtain⟨f,hf⟩:∃f:Nat→Nat,∀i:Nat,i<P.length→f i<E.n∧E.ou (f i)=(i:Int):=⟨fun i=>(hx i).choose,fun i=>(hx i).choose_spec⟩;exact qax E.n P.length f (fun i hi=>(hf i hi).1) (fun i hi j hj e=>by
  have h1:=(hf i hi).2;have h2:=(hf j hj).2;rw[e] at h1;omega)
theorem JnP.form (A B:DF):∃(cs:By) (M O:List Int) (P:List Spn) (m:Int),M.length≤4294967296∧O.length≤4294967296∧P.length≤4294967296∧∀base e w,JnP A B base e w→∃(xa:Option Addr) (xc:Nat) (oa:Option Addr) (oc:Nat) (pa:Option Addr) (pc:Nat),e=.returned (.tuple #[.agg #[.string ⟨cs.toArray⟩,.slice xa M.length xc,.slice oa O.length oc],.slice pa P.length pc,.int .i64 m])∧LeO w base (.slice xa M.length xc) (.slice oa O.length oc) M O∧qa3 w base (.slice pa P.length pc) P:=by
 have hnil:∀(w:World) (base:Nat),LeO w base (.slice none 0 0) (.slice none 0 0) [] []:=fun w base=>⟨World.ownsRow_nil w base 3 1,World.ownsRow_nil w base 3 1,fun b hb=>by cases hb⟩
 by_cases hN:qo9 A B
 ·refine⟨[],[],[],[],2,by simp,by simp,by simp,fun base e w h=>?_⟩
  rcases h with⟨_,rfl⟩|⟨bs,xa,xn,xc,oa,on,oc,NX,OU,pa,c,P,_,_,_,hM,hR,hn,hT⟩
  ·exact⟨none,0,none,0,none,0,rfl,hnil w base,World.ownsRow_nil w base 48 2⟩
  ·have h2:257≤OU.length:=hN _ _ hR.toOk hT
   omega
 ·by_cases hD:∃(bs:By) (NX OU:List Nat) (P:List Spn),qbv bs NX OU∧(dfA bs NX OU).Right∧OU.length≤256∧JnT A B (dfA bs NX OU) P∧P.length≤4294967296
  ·obtain⟨bs0,A0,B0,P0,hM0,hR0,hn0,hT0,hp0⟩:=hD
   have hA:A0.length≤16777216:=hM0.nxl;refine⟨bs0,zN A0,zN B0,P0,0,by rw[qal];omega,by rw[qal];omega,hp0,fun base e w h=>?_⟩;rcases h with⟨hno,_⟩|⟨bs,xa,xn,xc,oa,on,oc,NX,OU,pa,c,P,rfl,hW,hQ,hM,hR,hn,hT⟩
   ·exact absurd hno hN
   ·obtain⟨rfl,hl⟩:=hT0.one hT
    obtain⟨rfl,rfl,rfl⟩:=qd3 hM0 hM hR0 hR (fun t ht=>(hl t ht).symm);obtain rfl:xn=A0.length:=hW.shape (j:=0) (by simp) rfl;obtain rfl:on=B0.length:=hW.shape (j:=1) (by simp) rfl;have o0:w.ownsRow base 3 1 (.slice xa A0.length xc) A0.length (qab A0):=hW.own 0 (by simp);have o1:w.ownsRow base 3 1 (.slice oa B0.length oc) B0.length (qab B0):=hW.own 1 (by simp);refine⟨xa,xc,oa,oc,pa,c,by rw[qal,qal],?_,hQ⟩;rw[qo4] at o0 o1;rw[qal,qal];exact⟨by rw[qal];exact o0,by rw[qal];exact o1,fun b h1 h2=>hW.ap 0 (by simp) 1 (by simp) (by decide) b h1 h2⟩
  ·refine⟨[],[],[],[],0,by simp,by simp,by simp,fun base e w h=>?_⟩
   rcases h with⟨hno,_⟩|⟨bs,xa,xn,xc,oa,on,oc,NX,OU,pa,c,P,_,_,hQ,hM,hR,hn,hT⟩
   ·exact absurd hno hN
   ·refine absurd ⟨bs,NX,OU,P,hM,hR,hn,hT,?_⟩ hD
    have h1:P.length≤OU.length:=hT.few hR.toOk;omega
theorem JnZ.form (bsA:By) (NA OA:List Int) (bsB:By) (NB OB:List Int):∃(cs:By) (M O:List Int) (P:List Spn) (m:Int),M.length≤4294967296∧O.length≤4294967296∧P.length≤4294967296∧∀base e w,JnZ bsA NA OA bsB NB OB base e w→∃(xa:Option Addr) (xc:Nat) (oa:Option Addr) (oc:Nat) (pa:Option Addr) (pc:Nat),e=.returned (.tuple #[.agg #[.string ⟨cs.toArray⟩,.slice xa M.length xc,.slice oa O.length oc],.slice pa P.length pc,.int .i64 m])∧LeO w base (.slice xa M.length xc) (.slice oa O.length oc) M O∧qa3 w base (.slice pa P.length pc) P:=by
 by_cases hR:qay bsA NA OA∧qay bsB NB OB
 ·have hR':=hR
  obtain⟨⟨_,PA,QA,rfl,rfl,_,_⟩,_,PB,QB,rfl,rfl,_,_⟩:=hR;obtain⟨cs,M,O,P,m,l1,l2,l3,hF⟩:=JnP.form (dfA bsA PA QA) (dfA bsB PB QB);refine⟨cs,M,O,P,m,l1,l2,l3,fun base e w h=>?_⟩;rcases h with⟨hno,_⟩|⟨_,_,PA',QA',PB',QB',e1,e2,e3,e4,h⟩
  ·exact absurd hR' hno
  ·obtain rfl:=qa2 e1
   obtain rfl:=qa2 e2;obtain rfl:=qa2 e3;obtain rfl:=qa2 e4;exact hF _ _ _ h
 ·refine⟨[],[],[],[],1,by simp,by simp,by simp,fun base e w h=>?_⟩
  rcases h with⟨_,rfl⟩|⟨h1,h2,_⟩
  ·exact⟨none,0,none,0,none,0,rfl,⟨World.ownsRow_nil w base 3 1,World.ownsRow_nil w base 3 1,fun b hb=>by cases hb⟩,World.ownsRow_nil w base 48 2⟩
  ·exact absurd ⟨h1,h2⟩ hR
theorem MpP.form (bs:By) (NZ OZ LZ:List Int):∃(cs:By) (A B:List Int) (m:Int),A.length≤4294967296∧B.length≤4294967296∧∀base e w,MpP bs NZ OZ LZ base e w→∃(xa:Option Addr) (xc:Nat) (oa:Option Addr) (oc:Nat),e=.returned (.tuple #[.agg #[.string ⟨cs.toArray⟩,.slice xa A.length xc,.slice oa B.length oc],.int .i64 m])∧LeO w base (.slice xa A.length xc) (.slice oa B.length oc) A B:=by
 have hnil:∀(w:World) (base:Nat),LeO w base (.slice none 0 0) (.slice none 0 0) [] []:=fun w base=>⟨World.ownsRow_nil w base 3 1,World.ownsRow_nil w base 3 1,fun b hb=>by cases hb⟩
 by_cases hR:qay bs NZ OZ
 ·have hR':=hR
  obtain⟨hn,NX,OU,rfl,rfl,hM,hr⟩:=hR;by_cases hA:∀i,i<OU.length→Mpd LZ (gN OU i)
  ·obtain⟨cs,A,B,m,l1,l2,hF⟩:=LeP.form bs (zN NX) (zN (mpO LZ OU))
   refine⟨cs,A,B,m,l1,l2,fun base e w h=>?_⟩;rcases h with⟨h,_⟩|⟨NX',OU',e1,e2,_,_,_,⟨⟨i,hi,h⟩,_⟩|⟨_,hO⟩⟩
   ·exact absurd hR' h
   ·obtain rfl:=qa2 e2
    exact absurd (hA i hi) h
   ·obtain rfl:=qa2 e1
    obtain rfl:=qa2 e2;exact hF base e w (.inr ⟨NX,mpO LZ OU,rfl,rfl,qhw hM hA,qkj hM hr hA,hO⟩)
  ·refine⟨[],[],[],1,by simp,by simp,fun base e w h=>?_⟩
   rcases h with⟨h,_⟩|⟨NX',OU',e1,e2,_,_,_,⟨_,rfl⟩|⟨h,_⟩⟩
   ·exact absurd hR' h
   ·exact⟨none,0,none,0,rfl,hnil w base⟩
   ·obtain rfl:=qa2 e2
    exact absurd h hA
 ·refine⟨[],[],[],1,by simp,by simp,fun base e w h=>?_⟩
  rcases h with⟨_,rfl⟩|⟨NX',OU',e1,e2,hM,hr,hn,_⟩
  ·exact⟨none,0,none,0,rfl,hnil w base⟩
  ·exact absurd ⟨by rw[e2,qal];exact hn,NX',OU',e1,e2,hM,hr⟩ hR
end Go.Proofs.YtdgoilkgplnhfaaGreat
namespace Go.Proofs.YtdgoilkgplnhfaaGreat
open Go.RowKit Go.Lib
set_option maxRecDepth 100000 in
set_option maxHeartbeats 4000000 in
theorem qgb (bs:By) (gx go:Nat) (na oa:Option Addr) (nc oc:Nat) (NZ OZ:List Int) (w:World) (hnl:NZ.length≤17592186043904) (hol:OZ.length≤17592186043904) (h1:LnA w gx NZ) (h2:LnA w go OZ) (h3:ZAt w na NZ) (h4:ZAt w oa OZ):
 Calls Tryz.prog 15 #[auV bs (some ⟨gx,0,none⟩) NZ.length (NZ.length+3) (some ⟨go,0,none⟩) OZ.length (OZ.length+3),auV bs na NZ.length nc oa OZ.length oc] w fun e w'=>e=.returned (.bool true)∧Below w.heap.size w w':=by
 obtain⟨w2,hw2⟩:∃w2,w2=(w.alloc (.cells #[.string ⟨bs.toArray⟩,.slice (some ⟨gx,0,none⟩) NZ.length (NZ.length+3),.slice (some ⟨go,0,none⟩) OZ.length (OZ.length+3)] 24)).alloc (.cells #[.string ⟨bs.toArray⟩,.slice na NZ.length nc,.slice oa OZ.length oc] 24):=⟨_,rfl⟩;obtain⟨X2,B1,B2,hs2⟩:=qap w #[.string ⟨bs.toArray⟩,.slice (some ⟨gx,0,none⟩) NZ.length (NZ.length+3),.slice (some ⟨go,0,none⟩) OZ.length (OZ.length+3)] #[.string ⟨bs.toArray⟩,.slice na NZ.length nc,.slice oa OZ.length oc] 24 24;rw[←hw2] at X2 B1 B2 hs2;have HC:Hid (∀V,Below w2.heap.size w2 V→(V.cell? ⟨w.heap.size,0,none⟩=some (.string ⟨bs.toArray⟩)∧V.cell? ⟨w.heap.size,1,none⟩=some (.slice (some ⟨gx,0,none⟩) NZ.length (NZ.length+3))∧V.cell? ⟨w.heap.size,2,none⟩=some (.slice (some ⟨go,0,none⟩) OZ.length (OZ.length+3)))∧(V.cell? ⟨w.heap.size+1,0,none⟩=some (.string ⟨bs.toArray⟩)∧V.cell? ⟨w.heap.size+1,1,none⟩=some (.slice na NZ.length nc)∧V.cell? ⟨w.heap.size+1,2,none⟩=some (.slice oa OZ.length oc))∧LnA V gx NZ∧LnA V go OZ∧ZAt V na NZ∧ZAt V oa OZ):=fun V x=>by
  have Bv:=(x.block _ (lt_of_block B1)).trans B1;have Bw:=(x.block _ (lt_of_block B2)).trans B2;have y:=bt X2 x (Nat.le_refl _);exact⟨⟨by rw[cell_of_row _ _ _ _ _ _ Bv];rfl,by rw[cell_of_row _ _ _ _ _ _ Bv];rfl,by rw[cell_of_row _ _ _ _ _ _ Bv];rfl⟩,⟨by rw[cell_of_row _ _ _ _ _ _ Bw];rfl,by rw[cell_of_row _ _ _ _ _ _ Bw];rfl,by rw[cell_of_row _ _ _ _ _ _ Bw];rfl⟩,h1.below y,h2.below y,h3.below y,h4.below y⟩
 have HX2:=qaa X2;obtain⟨⟨c0,c1,c2⟩,⟨d0,d1,d2⟩,l1,l2,z1,z2⟩:=HC.out w2 (Below.refl _ _);have HSM:=qaa (qdd bs bs (some ⟨gx,0,none⟩) (some ⟨go,0,none⟩) na oa (NZ.length+3) (OZ.length+3) nc oc NZ OZ NZ OZ w2 (by omega) (by omega) l1.z l2.z z1 z2);unfold auV at HSM ⊢;clear X2 B1 B2 hs2 h1 h2 h3 h4 l1 l2 z1 z2;go_enter Tryz.func15,Tryz.ntmps15;go_upto_region 1 with fail
 rw[←hw2];clear hw2;go_upto_region 2 with(go_at_call 14;refine HSM.out.mono ?_;rintro e w3 ⟨⟨b,rfl,hb⟩,x3⟩;obtain rfl:b=true:=(hb.2 ⟨rfl,rfl,rfl⟩);have X3:=qaa x3;clear x3 hb)
 clear HSM c0 c1 c2 d0 d1 d2;obtain⟨⟨c0,c1,c2⟩,-⟩:=HC.out w3 X3.out;have f1:IntKind.i64.wrap ((NZ.length:Int)+3)=(NZ.length:Int)+3:=by rw[show(NZ.length:Int)+3=((NZ.length+3:Nat):Int) by omega];exact qak _ (by omega)
 have f2:IntKind.i64.wrap ((OZ.length:Int)+3)=(OZ.length:Int)+3:=by rw[show(OZ.length:Int)+3=((OZ.length+3:Nat):Int) by omega];exact qak _ (by omega)
 have f3:(0:Int)≤(NZ.length:Int)+3:=by omega
 have f4:(0:Int)≤(OZ.length:Int)+3:=by omega
 have f5:((NZ.length:Int)+3).toNat=NZ.length+3:=by omega
 have f6:((OZ.length:Int)+3).toNat=OZ.length+3:=by omega
 go_upto_region 4 with fail
 clear f1 f2 f3 f4 f5 f6 c0 c1 c2;go_wp2;go_loopg [5,8] 4 (fun g y x wr=>∃k:Nat,x=.int .i64 (k:Nat)∧y=.bool true∧k≤3∧Hid (Below w2.heap.size w2 wr)∧3-k<g)
 case atStart=>exact⟨0,rfl,rfl,by omega,X3,by omega⟩
 case round=>
  obtain⟨k,rfl,rfl,hk1,X,hg⟩:=hrel;have HG:=qaa hg;clear hg X3;obtain⟨⟨c0,c1,c2⟩,-,l1,l2,-⟩:=HC.out wr X.out;by_cases hk:k<3
  ·as_aux_lemma=>
   have hk':(k:Int)<3:=by omega
   have s0:=l1.more hk;have s1:=l2.more hk;have f2:IntKind.i64.wrap ((NZ.length:Int)+(k:Int))=(NZ.length:Int)+(k:Int):=by rw[show(NZ.length:Int)+(k:Int)=((NZ.length+k:Nat):Int) by omega];exact qak _ (by omega)
   have f3:(NZ.length:Int)+(k:Int)<(NZ.length:Int)+3:=by omega
   have f4:(0:Int)≤(NZ.length:Int)+(k:Int):=by omega
   have f5:((NZ.length:Int)+(k:Int)).toNat=NZ.length+k:=by omega
   have e2:IntKind.i64.wrap ((OZ.length:Int)+(k:Int))=(OZ.length:Int)+(k:Int):=by rw[show(OZ.length:Int)+(k:Int)=((OZ.length+k:Nat):Int) by omega];exact qak _ (by omega)
   have e3:(OZ.length:Int)+(k:Int)<(OZ.length:Int)+3:=by omega
   have e4:(0:Int)≤(OZ.length:Int)+(k:Int):=by omega
   have e5:((OZ.length:Int)+(k:Int)).toNat=OZ.length+k:=by omega
   clear l1 l2;go_wp2;go_roundg (3-(k+1)+1)
   case measure=>have:=HG.out;omega
   case rel=>exact⟨k+1,by first|rfl|go_num|(congr 1;omega),by first|rfl|simp,by omega,X,by omega⟩
  ·as_aux_lemma=>
   have hk':¬(k:Int)<3:=by omega
   have Xf:=qaa (bt HX2.out X.out (Nat.le_refl _));clear l1 l2;go_wp2;go_ret;exact⟨rfl,Xf.out⟩
set_option maxRecDepth 100000 in
set_option maxHeartbeats 4000000 in
theorem qip (bs:By) (xA oA:Option Addr) (xAl xAc oAl oAc:Nat) (cs:By) (xB oB:Option Addr) (xBl xBc oBl oBc:Nat) (more:Int) (w:World):
 Calls Tryz.prog 9 #[auV bs xA xAl xAc oA oAl oAc,auV cs xB xBl xBc oB oBl oBc,.int .i64 more] w fun e w'=>(∃b:Bool,e=.returned (.bool b))∧Below w.heap.size w w':=by
 have X2:Below w.heap.size w ((w.alloc (.cells #[.string ⟨bs.toArray⟩,.slice xA xAl xAc,.slice oA oAl oAc] 24)).alloc (.cells #[.string ⟨cs.toArray⟩,.slice xB xBl xBc,.slice oB oBl oBc] 24)):=al (al (Below.refl _ _) _) _;have HX2:=qaa X2;clear X2;unfold auV;go_enter Tryz.func9,Tryz.ntmps9;go_wp2;go_ret;exact⟨⟨_,rfl⟩,HX2.out⟩
end Go.Proofs.YtdgoilkgplnhfaaGreat

