/-
  What stands while an automaton's states are put together by their parts. No condition.
-/
import Derived.Test.YtdgoilkgplnhfaaGreatJ08
import Derived.Deep.DeepCutAuto
import Derived.Deep.LoopGhost
import Derived.Test.YtdgoilkgplnhfaaGreatJ05
namespace Go.Proofs.YtdgoilkgplnhfaaGreat
open Go.RowKit Go.Lib Go.Maps
set_option maxRecDepth 100000 in
theorem qgq (ao:Option Addr) (cap xb b:Nat) (P:List Nat) (w:World) (hb:b<P.length) (hc:w.cell? ⟨xb,0,none⟩=some (.slice ao P.length cap)) (hat:NAt w ao P):
 Calls Tryz.prog 121 #[.int .i64 (b:Nat),.pointer (some ⟨xb,0,none⟩)] w fun e w'=>e=.returned (.int .i64 ((gN P b:Nat):Int))∧Below w.heap.size w w':=by
 obtain⟨g,off,rfl,_,c1⟩:=hat.get hb;rw[←qah hb] at c1;have hlb:(b:Int)<(P.length:Int):=by omega
 go_enter Tryz.func121,Tryz.ntmps121;go_wp2;go_ret;exact⟨rfl,Below.refl _ _⟩
structure MgS (NX OU:List Nat) (W base:Nat) (w0:World) (uv fv:Value) (num fst:List Nat) (xv ov:Value) (X:List Nat) (k j:Nat) (w:World):Prop where
 rws:Rws w base [(uv,num),(fv,fst),(xv,X),(ov,(fst.take k).map (gN OU))]
 len:X.length=k*W+j
 kl:k≤fst.length
 jl:j≤W
 val:∀q,q<X.length→gN X q=gN num (gN NX (gN fst (q/W)*W+q%W))
 bel:Below base w0 w
section
variable {NX OU:List Nat} {W base:Nat} {w0 w w':World} {uv fv:Value} {num fst:List Nat} {xv ov:Value} {X:List Nat} {k j:Nat}
theorem MgS.below (h:MgS NX OU W base w0 uv fv num fst xv ov X k j w) (hb:base≤w0.heap.size) (x:Below w.heap.size w w'):MgS NX OU W base w0 uv fv num fst xv ov X k j w':=
 ⟨h.rws.below x,h.len,h.kl,h.jl,h.val,h.bel.trans (x.mono (Nat.le_trans hb h.bel.size))⟩
theorem MgS.put (h:MgS NX OU W base w0 uv fv num fst xv ov X k j w) (hb:base≤w0.heap.size) (hj:j<W) {v:Nat} (hv:v=gN num (gN NX (gN fst k*W+j))) {w5:World} (x5:Below w.heap.size w w5) {xv':Value} (h1:w'.ownsRow base 3 1 xv' (X.length+1) (qab X++[.int .i64 (v:Int)])) (h2:qbb w5 w' xv xv'):
 MgS NX OU W base w0 uv fv num fst xv' ov (X++[v]) k (j+1) w':=by
 have h5:=h.below hb x5;have r:=h5.rws.app (i:=2) (by simp) (L:=X) h1 h2;have ox:w5.ownsRow base 3 1 xv X.length (qab X):=h5.rws.own 2 (by simp);have hl:(X++[v]).length=X.length+1:=by simp
 have hd:=qbt (i:=k) hj;rw[←h.len] at hd;refine⟨r,by rw[hl,h.len];omega,h.kl,hj,fun q hq=>?_,?_⟩
 ·by_cases h2:q<X.length
  ·rw[qau h2];exact h.val q h2
  ·obtain rfl:q=X.length:=by omega
   rw[qat,hd.1,hd.2];exact hv
 ·obtain⟨F,k6,hF⟩:∃F:Nat→Prop,Kept F w5 w'∧(∀b,F b→xv.ownBlock=some b):=by
   rcases h2 with⟨q,a,b,c⟩|⟨a,b⟩
   ·exact⟨fun b=>some q=some b,qae c,fun b hb=>a.trans hb⟩
   ·exact⟨fun _=>False,Kept.of_below (qad a),fun b hb=>hb.elim⟩
  exact h5.bel.trans (k6.below (Nat.le_trans hb h5.bel.size) (fun b hf=>(World.ownsRow.lt ox b (hF b hf)).1))
theorem MgS.row (h:MgS NX OU W base w0 uv fv num fst xv ov X k W w) (hb:base≤w0.heap.size) (hk:k<fst.length) {w5:World} (x5:Below w.heap.size w w5) {ov':Value} {O:List Nat} (hO:O=(fst.take k).map (gN OU)) (h1:w'.ownsRow base 3 1 ov' (O.length+1) (qab O++[.int .i64 ((gN OU (gN fst k):Nat):Int)])) (h2:qbb w5 w' ov ov'):
 MgS NX OU W base w0 uv fv num fst xv ov' X (k+1) 0 w':=by
 have h5:=h.below hb x5;subst hO;have r:=h5.rws.app (i:=3) (by simp) h1 h2;have oo:w5.ownsRow base 3 1 ov _ (qab _):=h5.rws.own 3 (by simp);refine⟨?_,by rw[h.len,Nat.succ_mul];omega,hk,Nat.zero_le _,h.val,?_⟩
 ·rw[List.take_succ_eq_append_getElem hk,List.map_append,←qah hk]
  exact r
 ·obtain⟨F,k6,hF⟩:∃F:Nat→Prop,Kept F w5 w'∧(∀b,F b→ov.ownBlock=some b):=by
   rcases h2 with⟨q,a,b,c⟩|⟨a,b⟩
   ·exact⟨fun b=>some q=some b,qae c,fun b hb=>a.trans hb⟩
   ·exact⟨fun _=>False,Kept.of_below (qad a),fun b hb=>hb.elim⟩
  exact h5.bel.trans (k6.below (Nat.le_trans hb h5.bel.size) (fun b hf=>(World.ownsRow.lt oo b (hF b hf)).1))
end
structure MgD (NX OU P:List Nat) (W base:Nat) (xv ov:Value) (num fst X:List Nat) (w:World):Prop where
 rws:Rws w base [(xv,X),(ov,fst.map (gN OU))]
 nf:qbf (gN P) P.length (gN num) (gN fst) fst.length
 len:X.length=fst.length*W
 val:∀q,q<X.length→gN X q=gN num (gN NX (gN fst (q/W)*W+q%W))
theorem MgS.fin {NX OU P:List Nat} {W base g b:Nat} {w0 w w':World} {uv fv:Value} {num fst:List Nat} {xv ov:Value} {X:List Nat} (h:MgS NX OU W base w0 uv fv num fst xv ov X fst.length 0 w) (hnf:qbf (gN P) P.length (gN num) (gN fst) fst.length) (k6:Kept (fun i=>i=g) w w') (hg:g<base) (hb:b≤base):MgD NX OU P W b xv ov num fst X w':=by
 have hge:∀j (hj:j<4) c,(([(uv,num),(fv,fst),(xv,X),(ov,(fst.take fst.length).map (gN OU))]:List RN)[j]'hj).1.ownBlock=some c→¬c=g:=fun j hj c hc e=>by
  have:=(World.ownsRow.lt (show w.ownsRow base 3 1 _ _ (qab _) from h.rws.own j hj) c hc).1;omega
 have r':=h.rws.kept k6 hge;refine⟨?_,hnf,by have:=h.len;omega,h.val⟩;have o1:qan w' base xv X:=r'.own 2 (by simp);have o2:qan w' base ov ((fst.take fst.length).map (gN OU)):=r'.own 3 (by simp);rw[List.take_length] at o2;exact(Rws.nil w' b).two (o1.mono' hb) (o2.mono' hb) (fun c h1 h2=>h.rws.ap 2 (by simp) 3 (by simp) (by decide) c h1 h2)
theorem n_wf (n:Nat) (h:n≤9223372036854775807):(Lit.int .i64 (n:Int)).wf=true:=by
 simp[Lit.wf,IntKind.min,IntKind.max,IntKind.signed,IntKind.bits];omega
set_option maxRecDepth 100000 in
set_option maxHeartbeats 8000000 in
theorem qh3 (bs:By) (na oa pa:Option Addr) (nc oc pc W:Nat) (NX OU P:List Nat) (w:World) (hn0:0<OU.length) (hn1:OU.length≤65536) (hW:NX.length=OU.length*W) (hW0:0<W) (hW1:W≤256) (hPl:P.length=OU.length) (hP:∀x∈P,x≤4294967296) (hnl:∀x∈NX,x<OU.length) (hnc:NX.length≤nc) (hnx:NAt w na NX) (hou:NAt w oa OU) (hpa:NAt w pa P):
 Calls Tryz.prog 80 #[auV bs na NX.length nc oa OU.length oc,.slice pa P.length pc] w fun e w'=>(∃xa xn xc oa' on oc',e=.returned (auV bs xa xn xc oa' on oc')∧∃num fst X,MgD NX OU P W w.heap.size (.slice xa xn xc) (.slice oa' on oc') num fst X w')∧Below w.heap.size w w':=by
 obtain⟨i3,hi3,hz30,hz31,hz32⟩:=info_parts Tryz.info3n;have hmf:∀(fn:Fn) (first cap:Array Value) (w:World),(Instr.makeFunc fn first cap).run Tryz.prog w=.ok (.func fn first cap) w:=fun _ _ _ _=>rfl
 have hxl:NX.length≤16777216:=by
  have:=Nat.mul_le_mul hn1 hW1;rw[←hW] at this;omega
 have hdiv:NX.length/OU.length=W:=by rw[hW];exact Nat.mul_div_cancel_left W hn0
 have hW2:∃w2,w2=(((w.alloc (.cells #[.string ⟨bs.toArray⟩,.slice na NX.length nc,.slice oa OU.length oc] 24)).alloc (.cells #[.slice pa P.length pc] 22)).alloc (.cells #[.string ⟨#[]⟩,.slice none 0 0,.slice none 0 0] 24))∧Below w.heap.size w w2∧w2.heap[w.heap.size]? =some (.cells #[.string ⟨bs.toArray⟩,.slice na NX.length nc,.slice oa OU.length oc] 24 (0,0))∧w2.heap[w.heap.size+1]? =some (.cells #[.slice pa P.length pc] 22 (0,0))∧w2.heap[w.heap.size+1+1]? =some (.cells #[.string ⟨#[]⟩,.slice none 0 0,.slice none 0 0] 24 (0,0))∧w2.heap.size=w.heap.size+3:=by
  have B1:=heap_alloc_new w (.cells #[.string ⟨bs.toArray⟩,.slice na NX.length nc,.slice oa OU.length oc] 24);have s1:(w.alloc (.cells #[.string ⟨bs.toArray⟩,.slice na NX.length nc,.slice oa OU.length oc] 24)).heap.size=w.heap.size+1:=by simp
  have hb1:Below w.heap.size w (w.alloc (.cells #[.string ⟨bs.toArray⟩,.slice na NX.length nc,.slice oa OU.length oc] 24)):=al (Below.refl _ _) _;generalize w.alloc (.cells #[.string ⟨bs.toArray⟩,.slice na NX.length nc,.slice oa OU.length oc] 24)=wa at *;have B2:=heap_alloc_new wa (.cells #[.slice pa P.length pc] 22);have Y2:Below wa.heap.size wa (wa.alloc (.cells #[.slice pa P.length pc] 22)):=al (Below.refl _ _) _;have s2:(wa.alloc (.cells #[.slice pa P.length pc] 22)).heap.size=w.heap.size+1+1:=by simp[s1]
  have B3:=heap_alloc_new (wa.alloc (.cells #[.slice pa P.length pc] 22)) (.cells #[.string ⟨#[]⟩,.slice none 0 0,.slice none 0 0] 24);have Y3:Below (wa.alloc (.cells #[.slice pa P.length pc] 22)).heap.size (wa.alloc (.cells #[.slice pa P.length pc] 22)) ((wa.alloc (.cells #[.slice pa P.length pc] 22)).alloc (.cells #[.string ⟨#[]⟩,.slice none 0 0,.slice none 0 0] 24)):=al (Below.refl _ _) _;rw[s1] at B2;rw[s2] at B3;have b1':=(Y2.block _ (lt_of_block B1)).trans B1;exact⟨_,rfl,bt (bt hb1 Y2 (Nat.le_refl _)) Y3 (Nat.le_refl _),(Y3.block _ (lt_of_block b1')).trans b1',(Y3.block _ (lt_of_block B2)).trans B2,B3,by simp[s1]⟩
 obtain⟨w2,hw2,X2,B1,B2,B3,hs2⟩:=hW2;have HX2:=qaa X2;have HB1:=qaa B1;have HB2:=qaa B2;have HB3:=qaa B3;have HS2:=qaa hs2;have HNX:=qaa hnx;have HOU:=qaa hou;have HPA:=qaa hpa;have HPL:=qaa hPl;have HWL:=qaa hW;have HPB:=qaa hP;have HNL:=qaa hnl;clear X2 B1 B2 B3 hs2 hnx hou hpa hPl hW hP hnl;have hp1:P.length≤65536:=by have:=HPL.out;omega
 have HN:=qaa (qky P.length (.pointer (some ⟨w.heap.size+1,0,none⟩)) (fun b=>.int .i64 ((gN P b:Nat):Int)) (fun b=>.int .i64 ((gN P b:Nat):Int)) w2 (by omega)
  (fun i hi=>keyOf_int_mk Tryz.underlying3 (n_wf _ (by have:=HPB.out (gN P i) (by rw[qah hi];exact List.getElem_mem hi);omega))) (fun i _=>trivial)
  (fun i hi W x=>qgq pa pc (w.heap.size+1) i P W hi (by rw[cell_of_row _ _ _ _ _ _ ((x.block _ (lt_of_block HB2.out)).trans HB2.out)];rfl) (HPA.out.below (bt HX2.out x (Nat.le_refl _)))))
 have hcb:w2.cell? ⟨w.heap.size+1,0,none⟩=some (.slice pa P.length pc):=by rw[cell_of_row _ _ _ _ _ _ HB2.out];rfl
 unfold auV;go_enter Tryz.func80,Tryz.ntmps80;go_wp2_with (fail);rw[←hw2];refine HN.out.mono ?_;rintro e w3 ⟨⟨uv,fv,rfl,num,fst,hd⟩,x3⟩;clear HN hw2 hcb;have c3:∀W,Below w2.heap.size w2 W→W.cell? ⟨w.heap.size,0,none⟩=some (.string ⟨bs.toArray⟩)∧W.cell? ⟨w.heap.size,1,none⟩=some (.slice na NX.length nc)∧W.cell? ⟨w.heap.size,2,none⟩=some (.slice oa OU.length oc):=fun W x=>by
  have:=(x.block _ (lt_of_block HB1.out)).trans HB1.out;exact⟨by rw[cell_of_row _ _ _ _ _ _ this];rfl,by rw[cell_of_row _ _ _ _ _ _ this];rfl,by rw[cell_of_row _ _ _ _ _ _ this];rfl⟩
 have HC:=qaa c3;have HD:=qaa hd;have XX3:=qaa x3;have R3:Hid (Rws w3 w2.heap.size [(uv,num),(fv,fst)]):=(Rws.nil w3 w2.heap.size).two hd.o1 hd.o2 hd.ap;have hnf:qbf (gN P) P.length (gN num) (gN fst) fst.length:=hd.nf.lits (fun b c h=>by injection h with _ h;exact Int.ofNat.inj h) (fun b c h=>by have h':gN P b=gN P c:=h;rw[h']);have HNF:=qaa hnf;have hfl:fst.length≤65536:=by
  have:=qax P.length fst.length (gN fst) hnf.fstlt (fun i h1 j h2 e=>by rw[←hnf.numfst i h1,←hnf.numfst j h2,e]);omega
 have hnl:num.length=P.length:=hd.len;have HNM:=qaa hnl;obtain⟨d0,d1,d2⟩:=c3 w3 x3;have HWD:=qaa (qb7 bs na oa NX.length nc OU.length oc w3 (by omega) hn0);rw[hdiv] at HWD;obtain⟨fa,fc,hfv,_⟩:=qag (show w3.ownsRow w2.heap.size 3 1 fv fst.length (qab fst) from R3.out.own 1 (by simp));subst hfv;obtain⟨ua,uc,huv,_⟩:=qag (show w3.ownsRow w2.heap.size 3 1 uv num.length (qab num) from R3.out.own 0 (by simp));subst huv;clear c3 x3 hd hnf hdiv hnl;go_wp2_with (fail);refine HWD.out.mono ?_;rintro e w4 ⟨rfl,x4⟩;have X4:=qaa (bt XX3.out x4 (Nat.le_refl _));have R4:=qaa (R3.out.below x4);have hmm:fst.length*W≤16777216:=by have:=Nat.mul_le_mul hfl hW1;omega
 have hmul:IntKind.i64.wrap ((fst.length:Int)*(W:Int))=((fst.length*W:Nat):Int):=by rw[show(fst.length:Int)*(W:Int)=((fst.length*W:Nat):Int) by simp];exact qak _ (by omega)
 have HS0:Hid (∀(w5:World) (g5 c5:Nat),w5.ownsRow w2.heap.size 3 1 (.slice (some ⟨g5,0,none⟩) 0 c5) 0 []→w4.grownBy w5 none→w4.heap.size≤g5→MgS NX OU W w2.heap.size w2 (.slice ua num.length uc) (.slice fa fst.length fc) num fst (.slice (some ⟨g5,0,none⟩) 0 c5) (.slice none 0 0) [] 0 0 w5):=fun w5 g5 c5 p1 p2 hg=>by
  have x5:=qad p2;have o5:qan w5 w2.heap.size (.slice (some ⟨g5,0,none⟩) 0 c5) []:=p1;have r5:=R4.out.cons x5 o5 (fun b hb=>by have e:g5=b:=Option.some.inj hb;omega);have r6:=r5.cons (Below.refl _ _) (qan.nil w5 w2.heap.size) (fun b hb=>by cases hb);exact⟨r6,by simp,Nat.zero_le _,Nat.zero_le _,fun q hq=>by simp at hq,bt X4.out x5 (Nat.le_refl _)⟩
 clear x4 HWD d0 d1 d2 R3 R4;generalize hFW:fst.length*W=FW at *;go_wp2_with (at_make;refine wpList_make_own _ rfl (.const (.int .i64 0)) (.tmp 26) 22 rfl w2.heap.size 3 i3 (.int .i64 0) 1 Tryz.underlying22 hi3 hz30 hz31 .i64 .i64 _ FW rfl rfl rfl (by rw[hz32];omega) (by unfold maxLen;omega) X4.out.size ?_;intro w5 p1 p2;have S0:=qaa (HS0.out w5 _ _ p1 p2 (Nat.le_refl _));clear p1 p2);clear HS0 hFW;go_loopg [8,9,30] (fst.length+1) (fun g xv ov x wr=>∃(k:Nat) (X:List Nat),x=.int .i64 (k:Nat)∧Hid (MgS NX OU W w2.heap.size w2 (.slice ua num.length uc) (.slice fa fst.length fc) num fst xv ov X k 0 wr)∧fst.length-k<g)
 case atStart=>exact⟨0,[],rfl,S0,by omega⟩
 case round=>
  obtain⟨k,X,rfl,S,hg⟩:=hrel;have HG:=qaa hg;clear hg S0;have hkl:=S.out.kl;obtain⟨xa,xc,hxv⟩:=qan.shape (S.out.rws.own 2 (by simp));obtain⟨va,vc,hov⟩:=qan.shape (S.out.rws.own 3 (by simp));simp only[List.getElem_cons_succ,List.getElem_cons_zero] at hxv hov;subst hxv hov;by_cases hk:k<fst.length
  ·have hk':(k:Int)<(fst.length:Int):=by omega
   obtain⟨fg,rfl,cf⟩:=qan.gcell (S.out.rws.own 1 (by simp)) hk;have hsl:gN fst k<OU.length:=by have:=HNF.out.fstlt k hk;have:=HPL.out;omega
   have HSK:Hid (gN fst k=gN fst k):=rfl;obtain⟨s,hs⟩:∃s,s=gN fst k:=⟨_,rfl⟩;rw[←hs] at cf hsl;have HS:=qaa hs;clear hs HSK;have hmW:s*W+W≤NX.length:=by
    have:=Nat.mul_le_mul_right W (show s+1≤OU.length by omega);rw[Nat.succ_mul,←HWL.out] at this;exact this
   have f1:IntKind.i64.wrap ((s:Int)*(W:Int))=((s*W:Nat):Int):=by rw[show(s:Int)*(W:Int)=((s*W:Nat):Int) by simp];exact qak _ (by omega)
   have f2:IntKind.i64.wrap ((s:Int)+1)=((s+1:Nat):Int):=by rw[show(s:Int)+1=((s+1:Nat):Int) by simp];exact qak _ (by omega)
   have f3:IntKind.i64.wrap (((s+1:Nat):Int)*(W:Int))=((s*W+W:Nat):Int):=by rw[show((s+1:Nat):Int)*(W:Int)=((s*W+W:Nat):Int) by rw[←Nat.succ_mul];simp];exact qak _ (by omega)
   have f3':IntKind.i64.wrap (((s:Int)+1)*(W:Int))=((s*W+W:Nat):Int):=by rw[show((s:Int)+1)*(W:Int)=((s*W+W:Nat):Int) by rw[←Nat.succ_mul];simp];exact qak _ (by omega)
   obtain⟨nb,off,rfl,-,-⟩:=(HNX.out.below (bt HX2.out S.out.bel (Nat.le_refl _))).get (show s*W<NX.length by omega);obtain⟨_,e1,_⟩:=HC.out wr S.out.bel;have HSW:Hid (∀j,j<W→s*W+j<NX.length):=fun j hj=>by omega
   generalize hm:s*W=m at *;have HMM:=qaa hm;clear hm;have h1:(m:Int)≤((m+W:Nat):Int):=by omega
   have h2:((m+W:Nat):Int)≤(nc:Int):=by omega
   have h3:((m+W:Nat):Int)≤(NX.length:Int):=by omega
   have hmw:m+W-m=W:=by omega
   obtain⟨O,hO⟩:∃O,(fst.take k).map (gN OU)=O:=⟨_,rfl⟩;rw[hO];have HO:=qaa hO;have S':Hid (MgS NX OU W w2.heap.size w2 (.slice ua num.length uc) (.slice (some ⟨fg,0,none⟩) fst.length fc) num fst (.slice xa X.length xc) (.slice va O.length vc) X k 0 wr):=by rw[←hO];exact S
   clear S hO;go_wp2;rw[hmw];go_loopg [8,45] (W+1) (fun g xv x wr=>∃(j:Nat) (X:List Nat),x=.int .i64 (j:Nat)∧Hid (MgS NX OU W w2.heap.size w2 (.slice ua num.length uc) (.slice (some ⟨fg,0,none⟩) fst.length fc) num fst xv (.slice va O.length vc) X k j wr)∧W-j<g)
   case atStart=>exact⟨0,X,rfl,S',by omega⟩
   case round=>
    obtain⟨j,X,rfl,S,hg2⟩:=hrel;have HG2:=qaa hg2;clear hg2 S' cf e1;obtain⟨xa,xc,hxv⟩:=qan.shape (S.out.rws.own 2 (by simp));simp only[List.getElem_cons_succ,List.getElem_cons_zero] at hxv;subst hxv;have hjl:=S.out.jl;have hXl:X.length≤33554432:=by
     have h4:=S.out.len;have h5:=Nat.mul_le_mul (show k≤65536 by omega) hW1;omega
    by_cases hj:j<W
    ·have hj':(j:Int)<(W:Int):=by omega
     have hq:=HSW.out j hj;obtain⟨nb',off',e9,_,cx⟩:=(HNX.out.below (bt HX2.out S.out.bel (Nat.le_refl _))).get hq;simp only[Option.some.injEq,Addr.mk.injEq] at e9;obtain⟨rfl,rfl,-⟩:=e9;have htl:=HNL.out _ (List.getElem_mem hq);rw[←qah hq] at cx htl;obtain⟨t,ht⟩:∃t,gN NX (m+j)=t:=⟨_,rfl⟩;rw[ht] at cx htl;have htu:t<num.length:=by have:=HNM.out;have:=HPL.out;omega
     obtain⟨ug,rfl,cu⟩:=qan.gcell (S.out.rws.own 0 (by simp)) htu;have htu':(t:Int)<(num.length:Int):=by omega
     obtain⟨v,hv⟩:∃v,gN num t=v:=⟨_,rfl⟩;rw[hv] at cu;have HV:Hid (v=gN num (gN NX (gN fst k*W+j))):=by unfold Hid;rw[←HS.out,HMM.out,ht,hv]
     rw[show off+(m+j)=off+m+j by omega] at cx;have O6:Hid ((wr.alloc (.cells #[.int .i64 (v:Nat)] 3)).ownsRow w2.heap.size 3 1 (.slice xa X.length xc) X.length (qab X)):=own_below (show wr.ownsRow w2.heap.size 3 1 (.slice xa X.length xc) X.length (qab X) from S.out.rws.own 2 (by simp)) (NmP.x5 _ _);have HN6:=qaa (qbi wr v 3);have HS6:Hid (w2.heap.size≤(wr.alloc (.cells #[.int .i64 (v:Nat)] 3)).heap.size):=Nat.le_trans S.out.bel.size (NmP.x5 wr v).size;have HPA2:=qaa (fun(w6:World) (v6:Value) g1 g2=>S.out.put (w':=w6) (xv':=v6) (Nat.le_refl _) hj HV.out (NmP.x5 wr v) g1 g2);clear ht hv hq;go_wp2_with (at_builtin;refine qac rfl (.tmp 49) (.tmp 54) 22 rfl w2.heap.size 3 i3 (.int .i64 0) 1 8 Tryz.underlying22 hi3 hz30 hz31 hz32 rfl (by decide) _ X.length (qab X) rfl O6.out ⟨wr.heap.size,0,none⟩ 1 1 [.int .i64 (v:Nat)] rfl rfl HN6.out (by simp[Value.oneCell']) (by decide) (by unfold maxLen;omega) (by omega) HS6.out ?_;intro v6 w6 g1 g2;have S6:=qaa (HPA2.out w6 v6 g1 g2);clear g1 g2);go_roundg (W-(j+1)+1)
     case measure=>have:=HG2.out;omega
     case rel=>exact⟨j+1,X++[v],by first|rfl|go_num|(congr 1;omega),S6,by omega⟩
    ·have hj':¬(j:Int)<(W:Int):=by omega
     obtain rfl:W=j:=by omega
     obtain⟨ob,ooff,rfl,hob,co⟩:=(HOU.out.below (bt HX2.out S.out.bel (Nat.le_refl _))).get hsl;obtain⟨_,_,e2⟩:=HC.out wr S.out.bel;obtain⟨y,hy⟩:∃y,OU[s]=y:=⟨_,rfl⟩;have HY:Hid (gN OU (gN fst k)=y):=by unfold Hid;rw[←HS.out,qah hsl,hy]
     rw[hy] at co;have hol:O.length≤65536:=by have:=HO.out;rw[←this,List.length_map,List.length_take];omega
     have hsl':(s:Int)<(OU.length:Int):=by omega
     have O7:Hid ((wr.alloc (.cells #[.int .i64 (y:Nat)] 3)).ownsRow w2.heap.size 3 1 (.slice va O.length vc) O.length (qab O)):=own_below (show wr.ownsRow w2.heap.size 3 1 (.slice va O.length vc) O.length (qab O) from by have:=S.out.rws.own 3 (by simp);simp only[List.getElem_cons_succ,List.getElem_cons_zero,HO.out] at this;exact this) (NmP.x5 _ _);have HN7:=qaa (qbi wr y 3);have HS7:Hid (w2.heap.size≤(wr.alloc (.cells #[.int .i64 (y:Nat)] 3)).heap.size):=Nat.le_trans S.out.bel.size (NmP.x5 wr y).size;have HROW:=qaa (fun(w6:World) (v6:Value) g1 g2=>S.out.row (w':=w6) (ov':=v6) (Nat.le_refl _) hk (NmP.x5 wr y) (O:=O) HO.out.symm g1 g2);rw[HY.out] at HROW;have hkw:IntKind.i64.wrap ((k:Int)+1)=((k+1:Nat):Int):=by simp[IntKind.wrap,IntKind.bits,IntKind.signed];omega
     clear hy;go_wp2_with (at_builtin;refine qac rfl (.tmp 57) (.tmp 63) 22 rfl w2.heap.size 3 i3 (.int .i64 0) 1 8 Tryz.underlying22 hi3 hz30 hz31 hz32 rfl (by decide) _ O.length (qab O) rfl O7.out ⟨wr.heap.size,0,none⟩ 1 1 [.int .i64 (y:Nat)] rfl rfl HN7.out (by simp[Value.oneCell']) (by decide) (by unfold maxLen;omega) (by omega) HS7.out ?_;intro v6 w6 g1 g2;have S6:=qaa (HROW.out w6 v6 g1 g2);clear g1 g2);go_roundg (fst.length-(k+1)+1)
     case measure=>have:=HG.out;omega
     case rel=>exact⟨k+1,X,by first|rfl|go_num|(congr 1;omega),S6,by omega⟩
  ·have hk':¬(k:Int)<(fst.length:Int):=by omega
   obtain rfl:k=fst.length:=by omega
   obtain⟨O,hO⟩:∃O,(fst.take fst.length).map (gN OU)=O:=⟨_,rfl⟩;rw[hO];have S':Hid (MgS NX OU W w2.heap.size w2 (.slice ua num.length uc) (.slice fa fst.length fc) num fst (.slice xa X.length xc) (.slice va O.length vc) X fst.length 0 wr):=by rw[←hO];exact S
   clear S hO;have S:=S';clear S';obtain⟨e0,_,_⟩:=HC.out wr S.out.bel;have hlt3:=lt_of_block HB3.out;obtain⟨c0,f0,c1,f1,c2,f2,B6,k6⟩:=st3 ((S.out.bel.block _ hlt3).trans HB3.out) (.string ⟨bs.toArray⟩) (.slice xa X.length xc) (.slice va O.length vc);have B0:=(S.out.bel.block _ hlt3).trans HB3.out;have Q1:=block_setCell B0 0 (.string ⟨bs.toArray⟩);have Q2:=block_setCell Q1 1 (.slice xa X.length xc);have d0:(wr.setCell ⟨w.heap.size+1+1,0,none⟩ (.string ⟨bs.toArray⟩)).cell? ⟨w.heap.size+1+1,0,none⟩=some (.string ⟨bs.toArray⟩):=by rw[cell_of_row _ _ _ _ _ _ Q1];rfl
   have d1:((wr.setCell ⟨w.heap.size+1+1,0,none⟩ (.string ⟨bs.toArray⟩)).setCell ⟨w.heap.size+1+1,1,none⟩ (.slice xa X.length xc)).cell? ⟨w.heap.size+1+1,1,none⟩=some (.slice xa X.length xc):=by rw[cell_of_row _ _ _ _ _ _ Q2];rfl
   have d2:(((wr.setCell ⟨w.heap.size+1+1,0,none⟩ (.string ⟨bs.toArray⟩)).setCell ⟨w.heap.size+1+1,1,none⟩ (.slice xa X.length xc)).setCell ⟨w.heap.size+1+1,2,none⟩ (.slice va O.length vc)).cell? ⟨w.heap.size+1+1,2,none⟩=some (.slice va O.length vc):=by rw[cell_of_row _ _ _ _ _ _ B6];rfl
   clear B0 Q1 Q2;have hsz:=HS2.out;have HF:=qaa (S.out.fin HNF.out k6 (by omega) (b:=w.heap.size) (by omega));have HXF:=qaa ((bt HX2.out S.out.bel (Nat.le_refl _)).trans (k6.below (by have:=S.out.bel.size;omega) (fun b hb=>by omega)));clear B6 k6;go_wp2;refine bodyPost_ret (by simp[results,Tryz.results80,go_sem,d0,d1,d2];try rfl) rfl ?_;exact⟨⟨_,_,_,_,_,_,rfl,num,fst,X,HF.out⟩,HXF.out⟩
end Go.Proofs.YtdgoilkgplnhfaaGreat
namespace Go.Proofs.YtdgoilkgplnhfaaGreat
open Go.RowKit Go.Lib
def bkV (n:Nat) (sg sl sc fg fl fc:Nat):Value:=.agg #[.int .i64 (n:Int),.slice (some ⟨sg,0,none⟩) sl sc,.slice (some ⟨fg,0,none⟩) fl fc]
set_option maxRecDepth 100000 in
theorem qet (n tt c sg sl sc fg fl fc:Nat) (w:World) (h:c*n+tt≤9223372036854775807):
 Calls Tryz.prog 138 #[bkV n sg sl sc fg fl fc,.int .i64 (tt:Nat),.int .i64 (c:Nat)] w fun e w'=>e=.returned (.int .i64 ((c*n+tt:Nat):Int))∧Below w.heap.size w w':=by
 have f1:IntKind.i64.wrap ((c:Int)*(n:Int))=((c*n:Nat):Int):=by rw[show(c:Int)*(n:Int)=((c*n:Nat):Int) by simp];exact qak _ (by omega)
 have f2:IntKind.i64.wrap (((c*n:Nat):Int)+(tt:Int))=((c*n+tt:Nat):Int):=by rw[show((c*n:Nat):Int)+(tt:Int)=((c*n+tt:Nat):Int) by simp];exact qak _ h
 generalize c*n=m at *;have X:=qaa (al (Below.refl w.heap.size w) (.cells #[.int .i64 (n:Int),.slice (some ⟨sg,0,none⟩) sl sc,.slice (some ⟨fg,0,none⟩) fl fc] 157));unfold bkV;go_enter Tryz.func138,Tryz.ntmps138;go_wp2;go_ret;exact⟨by first|rfl|simp,X.out⟩
set_option maxRecDepth 100000 in
set_option maxHeartbeats 2000000 in
theorem qiz (n tt c i sg sc fg fc lo hi:Nat) (S F:List Nat) (w:World) (hi':c*n+tt=i) (hb:i≤140737488351232) (hS:i+1<S.length) (hlo:gN S i=lo) (hhi:gN S (i+1)=hi) (h1:lo≤hi) (h2:hi≤F.length) (h3:F.length≤fc) (hat:NAt w (some ⟨sg,0,none⟩) S):
 Calls Tryz.prog 139 #[bkV n sg S.length sc fg F.length fc,.int .i64 (tt:Nat),.int .i64 (c:Nat)] w fun e w'=>(∃ao,e=.returned (.slice ao (hi-lo) (fc-lo))∧(lo<hi→ao=some ⟨fg,lo,none⟩))∧Below w.heap.size w w':=by
 obtain⟨sb,off,e0,hsb,c1⟩:=hat.get (show i<S.length by omega);obtain⟨sb',off',e0',_,c2⟩:=hat.get hS;simp only[Option.some.injEq,Addr.mk.injEq,and_true] at e0 e0';obtain⟨rfl,rfl⟩:=e0;obtain⟨rfl,rfl⟩:=e0';rw[←qah (show i<S.length by omega),hlo,Nat.zero_add] at c1;rw[←qah hS,hhi,Nat.zero_add] at c2;have X1:=qaa (al (Below.refl w.heap.size w) (.cells #[.int .i64 (n:Int),.slice (some ⟨sg,0,none⟩) S.length sc,.slice (some ⟨fg,0,none⟩) F.length fc] 157));have B1:=heap_alloc_new w (.cells #[.int .i64 (n:Int),.slice (some ⟨sg,0,none⟩) S.length sc,.slice (some ⟨fg,0,none⟩) F.length fc] 157);have HSL:=qaa (qet n tt c sg S.length sc fg F.length fc (w.alloc (.cells #[.int .i64 (n:Int),.slice (some ⟨sg,0,none⟩) S.length sc,.slice (some ⟨fg,0,none⟩) F.length fc] 157)) (by omega));rw[hi'] at HSL;have a1:(i:Int)<(S.length:Int):=by omega
 have a2:(i:Int)+1<(S.length:Int):=by omega
 have a3:IntKind.i64.wrap ((i:Int)+1)=(i:Int)+1:=by simp[IntKind.wrap,IntKind.bits,IntKind.signed];omega
 have a4:(lo:Int)≤(hi:Int):=by omega
 have a5:(hi:Int)≤(fc:Int):=by omega
 have a6:(hi:Int)≤(F.length:Int):=by omega
 have a7:(0:Int)≤(i:Int)+1:=by omega
 have a8:((i:Int)+1).toNat=i+1:=by omega
 clear hi' hlo hhi hat;unfold bkV at HSL ⊢;go_enter Tryz.func139,Tryz.ntmps139;go_wp2_with (fail);refine HSL.out.mono ?_;rintro e w2 ⟨rfl,x2⟩;have B2:=(x2.block _ (lt_of_block B1)).trans B1;have d1:w2.cell? ⟨w.heap.size,1,none⟩=some (.slice (some ⟨sg,0,none⟩) S.length sc):=by rw[cell_of_row _ _ _ _ _ _ B2];rfl
 have d2:w2.cell? ⟨w.heap.size,2,none⟩=some (.slice (some ⟨fg,0,none⟩) F.length fc):=by rw[cell_of_row _ _ _ _ _ _ B2];rfl
 have X2:=qaa (bt X1.out x2 (Nat.le_refl _));have d3:=(X2.out.cell (p:=⟨sg,i,none⟩) hsb).trans c1;have d4:=(X2.out.cell (p:=⟨sg,i+1,none⟩) hsb).trans c2;clear HSL x2 B1 B2 c1 c2;go_wp2;go_quiet (fail);have X3:Hid (Below w.heap.size w (w2.drewN nq)):=X2.out.trans ⟨rfl,rfl,rfl,Nat.le_refl _,fun _ _=>rfl⟩;go_wp2
 all_goals
  go_ret;exact⟨⟨_,rfl,fun hl=>by first|rfl|(simp;done)|omega⟩,X3.out⟩
set_option maxRecDepth 100000 in
set_option maxHeartbeats 2000000 in
theorem qgr (w:World) (base pb:Nat) (lv pv ov rv:Value) (L P O:List Nat) (R:List Rm) (h:PrM w base pb lv pv ov rv L P O R):
 Calls Tryz.prog 115 #[.pointer (some ⟨pb,0,none⟩)] w fun e w'=>(∃b:Bool,e=.returned (.bool b)∧(b=true↔R.length=L.length∨256<R.length))∧Below w.heap.size w w':=by
 obtain⟨q0,q1,q2,q3⟩:=h.cells;obtain⟨la,lc,hlv⟩:=qan.shape (h.rws.own 0 (by simp));simp only[List.getElem_cons_zero] at hlv;subst hlv;obtain⟨ra,rc,rfl⟩:=h.own.shape;clear h;go_enter Tryz.func115,Tryz.ntmps115;go_wp2;by_cases h1:(R.length:Int)=(L.length:Int)
 ·have h1':decide ((R.length:Int)=(L.length:Int))=true:=by simpa using h1
  go_quiet (fail);have X3:Hid (Below w.heap.size w (w.drewN nq)):=⟨rfl,rfl,rfl,Nat.le_refl _,fun _ _=>rfl⟩;go_wp2;go_ret;exact⟨⟨_,rfl,by simp;omega⟩,X3.out⟩
 ·have h1':decide ((R.length:Int)=(L.length:Int))=false:=by simpa using h1
  have h1'':((R.length:Int)==(L.length:Int))=false:=by simpa using h1
  go_quiet (fail);have X3:Hid (Below w.heap.size w (w.drewN nq)):=⟨rfl,rfl,rfl,Nat.le_refl _,fun _ _=>rfl⟩;go_wp2;go_ret;exact⟨⟨_,rfl,by simp;omega⟩,X3.out⟩
end Go.Proofs.YtdgoilkgplnhfaaGreat

