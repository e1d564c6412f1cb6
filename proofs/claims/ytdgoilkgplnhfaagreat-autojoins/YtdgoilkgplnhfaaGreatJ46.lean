/-
  The statements' lent, walked: an automaton's copy, with three places behind each list. Condition: lists no longer than a process can hold.
-/
import Derived.Laws.CopyOwn
import Derived.Test.YtdgoilkgplnhfaaGreatJ37
import Derived.Test.YtdgoilkgplnhfaaGreatJ31
import Derived.Test.YtdgoilkgplnhfaaGreatJ40
import Derived.Test.YtdgoilkgplnhfaaGreatJ43
namespace Go.Proofs.YtdgoilkgplnhfaaGreat
open Go.RowKit Go.Lib
def zC (L:List Int):List Value:=L.map fun z=>Value.int .i64 z
theorem qb1 (L:List Int):(zC L).length=L.length:=by simp[zC]
def lnC (L:List Int) (k:Nat):List Value:=zC L++(List.replicate k (.int .i64 (-77))++List.replicate (3-k) (.int .i64 0))
theorem qdk (L:List Int) {k:Nat} (h:k≤3):(lnC L k).length=L.length+3:=by simp[lnC,zC];omega
theorem qki (L:List Int) {k:Nat} (h:k<3):(lnC L k).set (L.length+k) (.int .i64 (-77))=lnC L (k+1):=by
 unfold lnC;rw[List.set_append_right _ _ (by rw[qb1];omega),qb1,show L.length+k-L.length=k by omega]
 match k,h with
 |0,_=>rfl
 |1,_=>rfl
 |2,_=>rfl
theorem qmn (L:List Int) (n:Nat) (hn:n=L.length+3):splice (List.replicate n (Value.int .i64 0)) 0 (zC L)=lnC L 0:=by
 subst hn;simp[splice,lnC,zC]
def LnA (w:World) (g:Nat) (L:List Int):Prop:=g<w.heap.size∧∀i (h:i<(lnC L 3).length),w.cell? ⟨g,i,none⟩=some (lnC L 3)[i]
theorem LnA.below {w w':World} {g:Nat} {L:List Int} (h:LnA w g L) (x:Below w.heap.size w w'):LnA w' g L:=⟨Nat.lt_of_lt_of_le h.1 x.size,fun i hi=>(x.cell (p:=⟨g,i,none⟩) h.1).trans (h.2 i hi)⟩
theorem LnA.z {w:World} {g:Nat} {L:List Int} (h:LnA w g L):ZAt w (some ⟨g,0,none⟩) L:=.inr ⟨g,0,rfl,h.1,fun i hi=>by
 rw[Nat.zero_add,h.2 i (by rw[qdk L (by decide)];omega)];unfold lnC;rw[List.getElem_append_left (by rw[qb1];exact hi)];simp[zC]⟩
theorem LnA.more {w:World} {g:Nat} {L:List Int} (h:LnA w g L) {k:Nat} (hk:k<3):w.cell? ⟨g,L.length+k,none⟩=some (.int .i64 (-77)):=by
 rw[h.2 (L.length+k) (by rw[qdk L (by decide)];omega)];unfold lnC;rw[List.getElem_append_right (by rw[qb1];omega)]
 match k,hk with
 |0,_=>simp[zC]
 |1,_=>simp[zC]
 |2,_=>simp[zC]
theorem qea (n:Nat):(madeCells (Value.int .i64 0).cells (n*1)).toList=List.replicate n (.int .i64 0):=by
 simp only[madeCells,Value.cells,Nat.mul_one];rw[List.eq_replicate_iff];refine⟨by simp,fun b hb=>?_⟩;simp only[Array.toList_map,List.mem_map] at hb;obtain⟨x,_,rfl⟩:=hb;simp[Nat.mod_one]
theorem qdl {w:World} {base g n:Nat} {xs:List Value} (h:w.ownsRow base 3 1 (.slice (some ⟨g,0,none⟩) n n) n xs):w.heap[g]? =some (.cells xs.toArray 3 (0,0)):=by
 rcases h.2 with⟨h',_⟩|⟨g',cap',cur,h',hb,hg,hnc,hcm,hcs,htake⟩
 ·simp at h'
 ·simp only[Value.slice.injEq,Option.some.injEq,Addr.mk.injEq,and_true,true_and] at h'
  obtain⟨rfl,rfl⟩:=h';rw[hg,←htake,List.take_of_length_le (by simp;omega)]
theorem qf8 {w:World} {base g n:Nat} {xs:List Value} (h:w.heap[g]? =some (.cells xs.toArray 3 (0,0))) (hb:base≤g) (hn:xs.length=n) (hm:n≤maxLen):w.ownsRow base 3 1 (.slice (some ⟨g,0,none⟩) n n) n xs:=
 ⟨by omega,.inr ⟨g,n,xs.toArray,rfl,hb,h,Nat.le_refl _,hm,by simp[hn],by simp[List.take_of_length_le,hn]⟩⟩
theorem ql9 {w0 w:World} {g1 g2 n1 n2:Nat} {A B:List Value} (x:Below w0.heap.size w0 w) (h1:w.heap[g1]? =some (.cells A.toArray 3 (0,0))) (h2:w.heap[g2]? =some (.cells B.toArray 3 (0,0))) (hb1:w0.heap.size≤g1) (hb2:w0.heap.size≤g2) (hne:g1≠g2) (hn1:A.length=n1) (hn2:B.length=n2) (hm1:n1≤maxLen) (hm2:n2≤maxLen):
 Fr w0 [(.slice (some ⟨g1,0,none⟩) n1 n1,3,A),(.slice (some ⟨g2,0,none⟩) n2 n2,3,B)] w:=by
 subst hn1 hn2;refine⟨⟨fun j hj=>?_,fun j hj k hk hjk b e1 e2=>?_⟩,x⟩
 ·match j,hj with
  |0,_=>exact qf8 h1 hb1 rfl hm1
  |1,_=>exact qf8 h2 hb2 rfl hm2
 ·match j,hj,k,hk with
  |0,_,0,_=>exact hjk rfl
  |1,_,1,_=>exact hjk rfl
  |0,_,1,_=>
   have a1:g1=b:=Option.some.inj e1;have a2:g2=b:=Option.some.inj e2;exact hne (a1.trans a2.symm)
  |1,_,0,_=>
   have a1:g2=b:=Option.some.inj e1;have a2:g1=b:=Option.some.inj e2;exact hne (a2.trans a1.symm)
theorem ZAt.src {w:World} {ao:Option Addr} {L:List Int} (h:ZAt w ao L) (h0:0<(zC L).length):∃ad,ao=some ad∧∀j v,(zC L)[j]? =some v→w.cell? (ad.add j)=some v:=by
 rw[qb1] at h0;rcases h with h|⟨b,off,e,hb,h⟩
 ·rw[h] at h0;cases h0
 ·refine⟨_,e,fun j v hv=>?_⟩
  obtain⟨hj,e2⟩:=List.getElem?_eq_some_iff.1 hv;rw[qb1] at hj;rw[qbu,h j hj,←e2];simp[zC]
set_option maxRecDepth 100000 in
set_option maxHeartbeats 8000000 in
theorem qf9 (bs:By) (na oa:Option Addr) (nc oc:Nat) (NZ OZ:List Int) (w:World) (hnl:NZ.length≤17592186043904) (hol:OZ.length≤17592186043904) (hnx:ZAt w na NZ) (hou:ZAt w oa OZ):
 Calls Tryz.prog 11 #[auV bs na NZ.length nc oa OZ.length oc] w fun e w'=>(∃gx go,e=.returned (auV bs (some ⟨gx,0,none⟩) NZ.length (NZ.length+3) (some ⟨go,0,none⟩) OZ.length (OZ.length+3))∧LnA w' gx NZ∧LnA w' go OZ)∧Below w.heap.size w w':=by
 obtain⟨i3,hi3,hz30,hz31,hz32⟩:=info_parts Tryz.info3n;have HI3:Hid ((Tryz.prog.info? 3).map (·.size)=some 1):=by unfold Hid;kernel_rfl
 have HI:Hid ((Tryz.prog.info? 24).map (·.size)=some 3):=by unfold Hid;kernel_rfl
 obtain⟨w2,hw2⟩:∃w2,w2=(w.alloc (.cells #[.string ⟨bs.toArray⟩,.slice na NZ.length nc,.slice oa OZ.length oc] 24)).alloc (.cells #[.string ⟨#[]⟩,.slice none 0 0,.slice none 0 0] 24):=⟨_,rfl⟩;obtain⟨X2,B1,B2,hs2⟩:=qap w #[.string ⟨bs.toArray⟩,.slice na NZ.length nc,.slice oa OZ.length oc] #[.string ⟨#[]⟩,.slice none 0 0,.slice none 0 0] 24 24;rw[←hw2] at X2 B1 B2 hs2;have HC:Hid (∀V,Below w2.heap.size w2 V→(V.cell? ⟨w.heap.size,0,none⟩=some (.string ⟨bs.toArray⟩)∧V.cell? ⟨w.heap.size,1,none⟩=some (.slice na NZ.length nc)∧V.cell? ⟨w.heap.size,2,none⟩=some (.slice oa OZ.length oc))∧V.heap[w.heap.size+1]? =some (.cells #[.string ⟨#[]⟩,.slice none 0 0,.slice none 0 0] 24 (0,0))∧ZAt V na NZ∧ZAt V oa OZ):=fun V x=>by
  have Bv:=(x.block _ (lt_of_block B1)).trans B1;exact⟨⟨by rw[cell_of_row _ _ _ _ _ _ Bv];rfl,by rw[cell_of_row _ _ _ _ _ _ Bv];rfl,by rw[cell_of_row _ _ _ _ _ _ Bv];rfl⟩,(x.block _ (lt_of_block B2)).trans B2,hnx.below (bt X2 x (Nat.le_refl _)),hou.below (bt X2 x (Nat.le_refl _))⟩
 have HX2:=qaa X2;have HS2:=qaa hs2;have HCN:Hid ((NZ.length:Int)+3=((NZ.length+3:Nat):Int)):=by unfold Hid;omega
 have HCO:Hid ((OZ.length:Int)+3=((OZ.length+3:Nat):Int)):=by unfold Hid;omega
 obtain⟨⟨c0,c1,c2⟩,-⟩:=HC.out w2 (Below.refl _ _);clear X2 B1 B2 hs2 hnx hou;unfold auV;go_enter Tryz.func11,Tryz.ntmps11;go_upto_region 1 with fail
 rw[←hw2];clear hw2;go_upto_region 2 with(at_make;refine wpList_make_full _ rfl (.tmp 9) (.tmp 9) 22 rfl w2.heap.size 3 i3 (.int .i64 0) 1 Tryz.underlying22 hi3 hz30 hz31 .i64 .i64 _ _ (NZ.length+3) rfl rfl HCN.out HCN.out (by rw[hz32];omega) (by unfold maxLen;omega) (Nat.le_refl _) ?_;intro w3 m1 m2;rw[qea] at m1;have M1:=qaa (qdl m1);have X3:=qaa (qad m2);clear m1 m2)
 clear c0 c1 c2;obtain⟨⟨c0,c1,c2⟩,-,kx,-⟩:=HC.out w3 X3.out;have P1:=qaa (fun(h0:0<(zC NZ).length)=>(⟨rfl,kx.src h0⟩:(some (⟨w2.heap.size,0,none⟩:Addr))=some ⟨w2.heap.size,0,none⟩∧_));clear kx;go_upto_region 3 with(refine wpList_copy_splice rfl (.tmp 11) (.tmp 13) 22 22 rfl 3 Tryz.underlying22 HI3.out _ na (NZ.length+3) (NZ.length+3) NZ.length nc rfl rfl w2.heap.size 0 _ 3 M1.out (zC NZ) (by rw[qb1];exact(Nat.min_eq_left (by omega)).symm) P1.out (by rw[qb1,List.length_replicate];omega) (fun v hv=>by obtain⟨z,_,rfl⟩:=List.mem_map.1 hv;rfl) w2.heap.size w2 X3.out (Nat.le_refl _) ?_;intro w4 m1 x4;rw[qmn NZ _ rfl] at m1;have M4:=qaa m1.out;have X4:=qaa x4;clear m1 x4)
 obtain⟨gx,hgx⟩:∃gx,gx=w2.heap.size:=⟨_,rfl⟩;rw[←hgx] at M4 ⊢;have HGX:=qaa hgx;clear c0 c1 c2 M1 P1 X3 hgx;obtain⟨⟨c0,c1,c2⟩,-,-,-⟩:=HC.out w4 X4.out;go_upto_region 4 with(at_make;refine wpList_make_full _ rfl (.tmp 18) (.tmp 18) 22 rfl w4.heap.size 3 i3 (.int .i64 0) 1 Tryz.underlying22 hi3 hz30 hz31 .i64 .i64 _ _ (OZ.length+3) rfl rfl HCO.out HCO.out (by rw[hz32];omega) (by unfold maxLen;omega) (Nat.le_refl _) ?_;intro w5 m1 m2;rw[qea] at m1;have M5:=qaa (qdl m1);have X5:=qaa (qad m2);clear m1 m2)
 clear c0 c1 c2;obtain⟨⟨c0,c1,c2⟩,-,-,ko⟩:=HC.out w5 (bt X4.out X5.out (Nat.le_refl _));have P1:=qaa (fun(h0:0<(zC OZ).length)=>(⟨rfl,ko.src h0⟩:(some (⟨w4.heap.size,0,none⟩:Addr))=some ⟨w4.heap.size,0,none⟩∧_));clear ko;go_upto_region 5 with(refine wpList_copy_splice rfl (.tmp 20) (.tmp 22) 22 22 rfl 3 Tryz.underlying22 HI3.out _ oa (OZ.length+3) (OZ.length+3) OZ.length oc rfl rfl w4.heap.size 0 _ 3 M5.out (zC OZ) (by rw[qb1];exact(Nat.min_eq_left (by omega)).symm) P1.out (by rw[qb1,List.length_replicate];omega) (fun v hv=>by obtain⟨z,_,rfl⟩:=List.mem_map.1 hv;rfl) w4.heap.size w4 X5.out (Nat.le_refl _) ?_;intro w6 m1 x6;rw[qmn OZ _ rfl] at m1;have M6:=qaa m1.out;have X6:=qaa x6;clear m1 x6)
 obtain⟨go,hgo⟩:∃go,go=w4.heap.size:=⟨_,rfl⟩;have F6:Hid (Fr w2 [(.slice (some ⟨gx,0,none⟩) (NZ.length+3) (NZ.length+3),3,lnC NZ 0),(.slice (some ⟨go,0,none⟩) (OZ.length+3) (OZ.length+3),3,lnC OZ 0)] w6):=by
  have hg1:gx<w4.heap.size:=lt_of_block M4.out;have hgx:=HGX.out;refine ql9 (bt X4.out X6.out (Nat.le_refl _)) ((X6.out.block gx hg1).trans M4.out) (by rw[hgo];exact M6.out) (by omega) (by have:=X4.out.size;omega) (by omega) (qdk NZ (by decide)) (qdk OZ (by decide)) (by unfold maxLen;omega) (by unfold maxLen;omega)
 rw[←hgo];clear c0 c1 c2 M5 M6 M4 P1 X5 X6 X4 hgo HGX;go_wp2;go_loopg [5] 4 (fun g x wr=>∃k:Nat,x=.int .i64 (k:Nat)∧k≤3∧Hid (Fr w2 [(.slice (some ⟨gx,0,none⟩) (NZ.length+3) (NZ.length+3),3,lnC NZ k),(.slice (some ⟨go,0,none⟩) (OZ.length+3) (OZ.length+3),3,lnC OZ k)] wr)∧3-k<g)
 case atStart=>exact⟨0,rfl,by omega,F6,by omega⟩
 case round=>
  clear F6;obtain⟨k,rfl,hk1,F,hg⟩:=hrel;have HG:=qaa hg;clear hg;obtain⟨⟨c0,c1,c2⟩,B7,-,-⟩:=HC.out wr F.out.bel;by_cases hk:k<3
  ·as_aux_lemma=>
   have hk':(k:Int)<3:=by omega
   obtain⟨s0,s1⟩:=F.out.slot (i:=0) (by simp) rfl (k:=NZ.length+k) (by rw[qdk NZ (by omega)];omega);have F1:=F.out.store (i:=0) (by simp) rfl (NZ.length+k) (.int .i64 (-77));rw[qki NZ hk] at F1;have F1:Hid (Fr w2 [(.slice (some ⟨gx,0,none⟩) (NZ.length+3) (NZ.length+3),3,lnC NZ (k+1)),(.slice (some ⟨go,0,none⟩) (OZ.length+3) (OZ.length+3),3,lnC OZ k)] (wr.setCell ⟨gx,NZ.length+k,none⟩ (.int .i64 (-77)))):=F1;have f2:IntKind.i64.wrap ((NZ.length:Int)+(k:Int))=(NZ.length:Int)+(k:Int):=by rw[show(NZ.length:Int)+(k:Int)=((NZ.length+k:Nat):Int) by omega];exact qak _ (by omega)
   have f3:(NZ.length:Int)+(k:Int)<(NZ.length:Int)+3:=by omega
   have f4:(0:Int)≤(NZ.length:Int)+(k:Int):=by omega
   have f5:((NZ.length:Int)+(k:Int)).toNat=NZ.length+k:=by omega
   clear B7;go_upto_region 9 with fail
   obtain⟨wa,hwa⟩:∃wa,wa=wr.setCell ⟨gx,NZ.length+k,none⟩ (.int .i64 (-77)):=⟨_,rfl⟩;rw[←hwa] at F1 ⊢;clear hwa s0 s1 f2 f3 f4 f5 c0 c1 c2 F;obtain⟨⟨c0,c1,c2⟩,-⟩:=HC.out wa F1.out.bel;obtain⟨s0,s1⟩:=F1.out.slot (i:=1) (by simp) rfl (k:=OZ.length+k) (by rw[qdk OZ (by omega)];omega);have F2:=F1.out.store (i:=1) (by simp) rfl (OZ.length+k) (.int .i64 (-77));rw[qki OZ hk] at F2;have F2:Hid (Fr w2 [(.slice (some ⟨gx,0,none⟩) (NZ.length+3) (NZ.length+3),3,lnC NZ (k+1)),(.slice (some ⟨go,0,none⟩) (OZ.length+3) (OZ.length+3),3,lnC OZ (k+1))] (wa.setCell ⟨go,OZ.length+k,none⟩ (.int .i64 (-77)))):=F2;have f2:IntKind.i64.wrap ((OZ.length:Int)+(k:Int))=(OZ.length:Int)+(k:Int):=by rw[show(OZ.length:Int)+(k:Int)=((OZ.length+k:Nat):Int) by omega];exact qak _ (by omega)
   have f3:(OZ.length:Int)+(k:Int)<(OZ.length:Int)+3:=by omega
   have f4:(0:Int)≤(OZ.length:Int)+(k:Int):=by omega
   have f5:((OZ.length:Int)+(k:Int)).toNat=OZ.length+k:=by omega
   go_wp2;go_roundg (3-(k+1)+1)
   case measure=>have:=HG.out;omega
   case rel=>exact⟨k+1,by first|rfl|go_num|(congr 1;omega),by omega,F2,by omega⟩
  ·as_aux_lemma=>
   have hk':¬(k:Int)<3:=by omega
   obtain rfl:k=3:=by omega
   obtain⟨S,HSE,HS0⟩:∃S:World→Prop,Hid (∀V,S V→V.cell? ⟨w.heap.size,0,none⟩=some (.string ⟨bs.toArray⟩)∧V.cell? ⟨w.heap.size,1,none⟩=some (.slice na NZ.length nc)∧V.cell? ⟨w.heap.size,2,none⟩=some (.slice oa OZ.length oc))∧Hid (S wr.drew):=⟨_,fun V h=>h,⟨c0,c1,c2⟩⟩;have FD:=qaa (F.out.below (Below.refl _ _).drew);have BD:wr.drew.heap[w.heap.size+1]? =some (.cells #[.string ⟨#[]⟩,.slice none 0 0,.slice none 0 0] 24 (0,0)):=B7;clear c0 c1 c2 B7 F;go_upto_region 10 with fail
   refine qco (S:=S) 13 (by kernel_rfl) ?_;generalize wr.drew=wd at *;have HBD:=qaa BD;clear BD;have hN3:(NZ.length:Int)≤(NZ.length:Int)+3:=by omega
   have hO3:(OZ.length:Int)≤(OZ.length:Int)+3:=by omega
   refine qaj.tk 0 rfl 42 HS0.out (fun w' hw'=>by obtain⟨q0,q1,q2⟩:=HSE.out w' hw';go_simp;first|done|rfl) ?_
   try simp only[Act.put,List.setIfInBounds_toArray,List.set_cons_zero,List.set_cons_succ]
   refine qaj.tk 1 rfl 43 HS0.out (fun w' hw'=>by obtain⟨q0,q1,q2⟩:=HSE.out w' hw';go_simp;first|done|rfl) ?_
   try simp only[Act.put,List.setIfInBounds_toArray,List.set_cons_zero,List.set_cons_succ]
   refine qaj.tk 2 rfl 44 HS0.out (fun w' hw'=>by obtain⟨q0,q1,q2⟩:=HSE.out w' hw';go_simp;first|done|rfl) ?_
   try simp only[Act.put,List.setIfInBounds_toArray,List.set_cons_zero,List.set_cons_succ]
   refine qaj.tk 3 rfl 45 HS0.out (fun w' hw'=>by obtain⟨q0,q1,q2⟩:=HSE.out w' hw';go_simp;first|done|rfl) ?_
   try simp only[Act.put,List.setIfInBounds_toArray,List.set_cons_zero,List.set_cons_succ]
   refine qaj.tk 4 rfl 46 HS0.out (fun w' hw'=>by obtain⟨q0,q1,q2⟩:=HSE.out w' hw';go_simp;first|done|rfl) ?_
   try simp only[Act.put,List.setIfInBounds_toArray,List.set_cons_zero,List.set_cons_succ]
   refine qaj.tk 5 rfl 47 HS0.out (fun w' hw'=>by obtain⟨q0,q1,q2⟩:=HSE.out w' hw';go_simp;first|done|rfl) ?_
   try simp only[Act.put,List.setIfInBounds_toArray,List.set_cons_zero,List.set_cons_succ]
   refine qaj.tk 6 rfl 48 HS0.out (fun w' hw'=>by obtain⟨q0,q1,q2⟩:=HSE.out w' hw';go_simp;first|done|rfl) ?_
   try simp only[Act.put,List.setIfInBounds_toArray,List.set_cons_zero,List.set_cons_succ]
   refine qaj.tk 7 rfl 49 HS0.out (fun w' hw'=>by obtain⟨q0,q1,q2⟩:=HSE.out w' hw';go_simp;first|done|rfl) ?_
   try simp only[Act.put,List.setIfInBounds_toArray,List.set_cons_zero,List.set_cons_succ]
   refine qaj.tk 8 rfl 50 HS0.out (fun w' hw'=>by obtain⟨q0,q1,q2⟩:=HSE.out w' hw';go_simp;first|done|rfl) ?_
   try simp only[Act.put,List.setIfInBounds_toArray,List.set_cons_zero,List.set_cons_succ]
   refine qaj.tk 9 rfl 51 HS0.out (fun w' hw'=>by obtain⟨q0,q1,q2⟩:=HSE.out w' hw';go_simp;first|done|rfl) ?_
   try simp only[Act.put,List.setIfInBounds_toArray,List.set_cons_zero,List.set_cons_succ]
   refine qaj.tk 10 rfl 52 HS0.out (fun w' hw'=>by obtain⟨q0,q1,q2⟩:=HSE.out w' hw';go_simp;first|done|rfl) ?_
   try simp only[Act.put,List.setIfInBounds_toArray,List.set_cons_zero,List.set_cons_succ]
   refine qaj.tk 11 rfl 53 HS0.out (fun w' hw'=>by obtain⟨q0,q1,q2⟩:=HSE.out w' hw';go_simp;first|done|rfl) ?_
   try simp only[Act.put,List.setIfInBounds_toArray,List.set_cons_zero,List.set_cons_succ]
   refine qaj.tk 12 rfl 54 HS0.out (fun w' hw'=>by obtain⟨q0,q1,q2⟩:=HSE.out w' hw';go_simp;first|done|rfl) ?_
   try simp only[Act.put,List.setIfInBounds_toArray,List.set_cons_zero,List.set_cons_succ]
   have A4:Hid ((#[.string ⟨bs.toArray⟩,.slice (some ⟨gx,0,none⟩) NZ.length (NZ.length+3),.slice (some ⟨go,0,none⟩) OZ.length (OZ.length+3)]:Array Value).all (·.oneCell')=true):=by unfold Hid;simp[Value.oneCell']
   refine qaj.last (by kernel_rfl) rfl (by kernel_rfl) (by kernel_rfl) (fun K hK=>?_);rw[if_pos (by rfl)];refine wp_store_row 24 (.tmp 2) (.tmp 54) rfl (w.heap.size+1) #[.string ⟨bs.toArray⟩,.slice (some ⟨gx,0,none⟩) NZ.length (NZ.length+3),.slice (some ⟨go,0,none⟩) OZ.length (OZ.length+3)] rfl rfl 24 #[.string ⟨#[]⟩,.slice none 0 0,.slice none 0 0] HBD.out HI.out rfl A4.out (hK _ _ ?_);clear hK K;have B6:=setRow_heap wd (w.heap.size+1) _ #[.string ⟨bs.toArray⟩,.slice (some ⟨gx,0,none⟩) NZ.length (NZ.length+3),.slice (some ⟨go,0,none⟩) OZ.length (OZ.length+3)] 24 (0,0) HBD.out;have k6:Kept (fun k=>k=w.heap.size+1) wd (wd.setRow (w.heap.size+1) #[.string ⟨bs.toArray⟩,.slice (some ⟨gx,0,none⟩) NZ.length (NZ.length+3),.slice (some ⟨go,0,none⟩) OZ.length (OZ.length+3)]):=qas;have x5:=bt HX2.out FD.out.bel (Nat.le_refl _);have X6:=qaa (x5.trans (k6.below x5.size (fun b hb=>by omega)));have hs2:=HS2.out;have HLX:Hid (LnA (wd.setRow (w.heap.size+1) #[.string ⟨bs.toArray⟩,.slice (some ⟨gx,0,none⟩) NZ.length (NZ.length+3),.slice (some ⟨go,0,none⟩) OZ.length (OZ.length+3)]) gx NZ):=by
    have hl:=World.ownsRow.lt (FD.out.own (i:=0) (by simp) rfl) gx rfl;refine⟨by have:=k6.size;omega,fun i hi=>?_⟩;rw[k6.cell (p:=⟨gx,i,none⟩) hl.2 (by show ¬gx=_;omega)];exact(FD.out.slot (i:=0) (by simp) rfl (k:=i) hi).1
   have HLO:Hid (LnA (wd.setRow (w.heap.size+1) #[.string ⟨bs.toArray⟩,.slice (some ⟨gx,0,none⟩) NZ.length (NZ.length+3),.slice (some ⟨go,0,none⟩) OZ.length (OZ.length+3)]) go OZ):=by
    have hl:=World.ownsRow.lt (FD.out.own (i:=1) (by simp) rfl) go rfl;refine⟨by have:=k6.size;omega,fun i hi=>?_⟩;rw[k6.cell (p:=⟨go,i,none⟩) hl.2 (by show ¬go=_;omega)];exact(FD.out.slot (i:=1) (by simp) rfl (k:=i) hi).1
   have z0:=cell_of_row _ _ 0 _ _ _ B6;have z1:=cell_of_row _ _ 1 _ _ _ B6;have z2:=cell_of_row _ _ 2 _ _ _ B6;clear B6 k6 x5 FD hs2;go_wp2;refine bodyPost_ret (by simp[results,Tryz.results11,go_sem,z0,z1,z2];try rfl) rfl ?_;exact⟨⟨gx,go,rfl,HLX.out,HLO.out⟩,X6.out⟩
theorem qo4 (L:List Nat):qab L=zC (zN L):=by simp[qab,zC,zN]
structure LeO (w:World) (base:Nat) (xv ov:Value) (A B:List Int):Prop where
 ox:w.ownsRow base 3 1 xv A.length (zC A)
 oo:w.ownsRow base 3 1 ov B.length (zC B)
 ap:∀b,xv.ownBlock=some b→¬ov.ownBlock=some b
theorem LeO.below {w w':World} {base:Nat} {xv ov:Value} {A B:List Int} (h:LeO w base xv ov A B) (x:Below w.heap.size w w'):LeO w' base xv ov A B:=⟨own_below h.ox x,own_below h.oo x,h.ap⟩
theorem qfb {w:World} {base base' n:Nat} {e:TypeId} {v:Value} {xs:List Value} (h:w.ownsRow base e 1 v n xs) (hb:base'≤base):w.ownsRow base' e 1 v n xs:=by
 rcases h.2 with h2|⟨g,c,cur,e1,h3,h4⟩
 ·exact⟨h.1,.inl h2⟩
 ·exact⟨h.1,.inr ⟨g,c,cur,e1,Nat.le_trans hb h3,h4⟩⟩
theorem LeO.mono {w:World} {base base':Nat} {xv ov:Value} {A B:List Int} (h:LeO w base xv ov A B) (hb:base'≤base):LeO w base' xv ov A B:=⟨qfb h.ox hb,qfb h.oo hb,h.ap⟩
theorem qga {w:World} {base n cap:Nat} {ao:Option Addr} {A:List Int} (h:w.ownsRow base 3 1 (.slice ao n cap) A.length (zC A)):ZAt w ao A:=by
 rcases h.2 with⟨e,e2⟩|⟨g,c',cur,e,hb,hg,hnc,hcm,hcs,htake⟩
 ·exact .inl (List.length_eq_zero_iff.1 e2)
 ·have e':=e
  injection e' with e1 e2 e3
  subst e1;refine .inr ⟨g,0,rfl,lt_of_block hg,fun i hi=>?_⟩;have hn:n=A.length:=e2;subst hn;rw[Nat.zero_add,h.cellAt i (by omega)];simp[zC,hi]
structure At3 (w:World) (p:Nat) (c:By) (xv ov:Value):Prop where
 lt:p<w.heap.size
 c0:w.cell? ⟨p,0,none⟩=some (.string ⟨c.toArray⟩)
 c1:w.cell? ⟨p,1,none⟩=some xv
 c2:w.cell? ⟨p,2,none⟩=some ov
theorem At3.below {w w':World} {p:Nat} {c:By} {xv ov:Value} (h:At3 w p c xv ov) (x:Below w.heap.size w w'):At3 w' p c xv ov:=
 ⟨Nat.lt_of_lt_of_le h.lt x.size,(x.cell (p:=⟨p,0,none⟩) h.lt).trans h.c0,(x.cell (p:=⟨p,1,none⟩) h.lt).trans h.c1,(x.cell (p:=⟨p,2,none⟩) h.lt).trans h.c2⟩
theorem At3.block {w:World} {p:Nat} {c:By} {xv ov:Value} (h:w.heap[p]? =some (.cells #[.string ⟨c.toArray⟩,xv,ov] 24 (0,0))):At3 w p c xv ov:=
 ⟨lt_of_block h,by rw[cell_of_row _ _ _ _ _ _ h];rfl,by rw[cell_of_row _ _ _ _ _ _ h];rfl,by rw[cell_of_row _ _ _ _ _ _ h];rfl⟩
theorem At3.new (w:World) (c:By) (xv ov:Value):At3 (w.alloc (.cells #[.string ⟨c.toArray⟩,xv,ov] 24)) w.heap.size c xv ov:=At3.block (heap_alloc_new w _)
theorem LeP.form (bs:By) (NZ OZ:List Int):∃(cs:By) (A B:List Int) (m:Int),A.length≤4294967296∧B.length≤4294967296∧∀base e w,LeP bs NZ OZ base e w→∃(xa:Option Addr) (xc:Nat) (oa:Option Addr) (oc:Nat),e=.returned (.tuple #[.agg #[.string ⟨cs.toArray⟩,.slice xa A.length xc,.slice oa B.length oc],.int .i64 m])∧LeO w base (.slice xa A.length xc) (.slice oa B.length oc) A B:=by
 have hnil:∀(w:World) (base:Nat),LeO w base (.slice none 0 0) (.slice none 0 0) [] []:=fun w base=>⟨World.ownsRow_nil w base 3 1,World.ownsRow_nil w base 3 1,fun b hb=>by cases hb⟩
 by_cases hZ:qcr bs NZ OZ
 ·obtain⟨NX,OU,rfl,rfl,hM⟩:=qj0 hZ
  by_cases hN:qcm (dfA bs NX OU)
  ·refine⟨[],[],[],2,by simp,by simp,fun base e w h=>?_⟩
   rcases h with⟨hno,_⟩|⟨NX',OU',e1,e2,_,_,⟨bs',xa,xn,xc,oa,on,oc,_,A,B,d⟩|⟨rfl,_⟩⟩
   ·exact absurd hZ hno
   ·obtain rfl:=qa2 e1
    obtain rfl:=qa2 e2;have h1:=hN _ d.rt.toOk d.lb;have h2:257≤B.length:=h1;have:=d.n;omega
   ·exact⟨none,0,none,0,rfl,hnil w base⟩
  ·by_cases hD:∃(base:Nat) (w:World) (bs':By) (xv ov:Value) (A B:List Nat),qol bs NX OU base bs' xv ov A B w
   ·obtain⟨base0,w0,bs0,xv0,ov0,A0,B0,d0⟩:=hD
    have hA:A0.length≤16777216:=d0.may.nxl;have hB:=d0.n;refine⟨bs0,zN A0,zN B0,0,by rw[qal];omega,by rw[qal];omega,fun base e w h=>?_⟩;rcases h with⟨hno,_⟩|⟨NX',OU',e1,e2,_,_,⟨bs',xa,xn,xc,oa,on,oc,rfl,A,B,d⟩|⟨_,hno⟩⟩
    ·exact absurd hZ hno
    ·obtain rfl:=qa2 e1
     obtain rfl:=qa2 e2;obtain⟨rfl,rfl,rfl⟩:=qd3 d0.may d.may d0.rt d.rt (fun t ht=>by rw[d0.lb t ht,d.lb t ht]);obtain rfl:xn=A0.length:=d.rws.shape (j:=0) (by simp) rfl;obtain rfl:on=B0.length:=d.rws.shape (j:=1) (by simp) rfl;have o0:w.ownsRow base 3 1 (.slice xa A0.length xc) A0.length (qab A0):=d.rws.own 0 (by simp);have o1:w.ownsRow base 3 1 (.slice oa B0.length oc) B0.length (qab B0):=d.rws.own 1 (by simp);refine⟨xa,xc,oa,oc,by rw[qal,qal];rfl,?_⟩;rw[qo4] at o0 o1;rw[qal,qal];exact⟨by rw[qal];exact o0,by rw[qal];exact o1,fun b h1 h2=>d.rws.ap 0 (by simp) 1 (by simp) (by decide) b h1 h2⟩
    ·obtain rfl:=qa2 e1
     obtain rfl:=qa2 e2;exact absurd hno hN
   ·refine⟨[],[],[],0,by simp,by simp,fun base e w h=>?_⟩
    rcases h with⟨hno,_⟩|⟨NX',OU',e1,e2,_,_,⟨bs',xa,xn,xc,oa,on,oc,_,A,B,d⟩|⟨_,hno⟩⟩
    ·exact absurd hZ hno
    ·obtain rfl:=qa2 e1
     obtain rfl:=qa2 e2;exact absurd ⟨_,_,_,_,_,_,_,d⟩ hD
    ·obtain rfl:=qa2 e1
     obtain rfl:=qa2 e2;exact absurd hno hN
 ·refine⟨[],[],[],60,by simp,by simp,fun base e w h=>?_⟩
  rcases h with⟨_,rfl⟩|⟨_,_,_,_,_,h1,_⟩
  ·exact⟨none,0,none,0,rfl,hnil w base⟩
  ·exact absurd h1 hZ
end Go.Proofs.YtdgoilkgplnhfaaGreat

