/-
  The code's narrowed by its contract. Condition: the automaton may be, and has at most 256 states.
-/
import Derived.Deep.RegionHeld3
import Derived.Test.YtdgoilkgplnhfaaGreatJ16
import Derived.Test.YtdgoilkgplnhfaaGreatJ04
import Derived.Test.YtdgoilkgplnhfaaGreatJ08
import Derived.Test.YtdgoilkgplnhfaaGreatJ15
import Derived.Test.YtdgoilkgplnhfaaGreatJ03
namespace Go.Proofs.YtdgoilkgplnhfaaGreat
open Go.RowKit Go.Lib Go.Maps
structure NwS (NX:List Nat) (W base:Nat) (w0:World) (uv fv vv:Value) (num fst of:List Nat) (xv:Value) (X:List Nat) (i j:Nat) (w:World):Prop where
 rws:Rws w base [(uv,num),(fv,fst),(vv,of),(xv,X)]
 len:X.length=i*fst.length+j
 jl:j≤fst.length
 val:∀q,q<X.length→gN X q=gN NX (q/fst.length*W+gN fst (q%fst.length))
 bel:Below base w0 w
section
variable {NX:List Nat} {W base:Nat} {w0 w w':World} {uv fv vv:Value} {num fst of:List Nat} {xv:Value} {X:List Nat} {i j:Nat}
theorem NwS.below (h:NwS NX W base w0 uv fv vv num fst of xv X i j w) (hb:base≤w0.heap.size) (x:Below w.heap.size w w'):NwS NX W base w0 uv fv vv num fst of xv X i j w':=
 ⟨h.rws.below x,h.len,h.jl,h.val,h.bel.trans (x.mono (Nat.le_trans hb h.bel.size))⟩
theorem NwS.put (h:NwS NX W base w0 uv fv vv num fst of xv X i j w) (hb:base≤w0.heap.size) (hj:j<fst.length) {v:Nat} (hv:v=gN NX (i*W+gN fst j)) {w5:World} (x5:Below w.heap.size w w5) {xv':Value} (h1:w'.ownsRow base 3 1 xv' (X.length+1) (qab X++[.int .i64 (v:Int)])) (h2:qbb w5 w' xv xv'):
 NwS NX W base w0 uv fv vv num fst of xv' (X++[v]) i (j+1) w':=by
 have h5:=h.below hb x5;have r:=h5.rws.app (i:=3) (by simp) (L:=X) h1 h2;have ox:w5.ownsRow base 3 1 xv X.length (qab X):=h5.rws.own 3 (by simp);have hl:(X++[v]).length=X.length+1:=by simp
 have hd:=qbt (i:=i) hj;rw[←h.len] at hd;refine⟨r,by rw[hl,h.len];omega,hj,fun q hq=>?_,?_⟩
 ·by_cases h2:q<X.length
  ·rw[qau h2];exact h.val q h2
  ·obtain rfl:q=X.length:=by omega
   rw[qat,hd.1,hd.2];exact hv
 ·obtain⟨F,k6,hF⟩:∃F:Nat→Prop,Kept F w5 w'∧(∀b,F b→xv.ownBlock=some b):=by
   rcases h2 with⟨q,a,b,c⟩|⟨a,b⟩
   ·exact⟨fun b=>some q=some b,qae c,fun b hb=>a.trans hb⟩
   ·exact⟨fun _=>False,Kept.of_below (qad a),fun b hb=>hb.elim⟩
  exact h5.bel.trans (k6.below (Nat.le_trans hb h5.bel.size) (fun b hf=>(World.ownsRow.lt ox b (hF b hf)).1))
end
structure NwD (NX:List Nat) (bs:By) (n W base:Nat) (xv:Value) (num fst of X:List Nat) (w:World):Prop where
 own:qan w base xv X
 nf:qbf (fun c=>ldB NX W c n) W (gN num) (gN fst) fst.length
 ofl:of.length=256
 ofv:∀b,b<256→gN of b=gN num (bs.getD b 0).toNat
 len:X.length=n*fst.length
 val:∀q,q<X.length→gN X q=gN NX (q/fst.length*W+gN fst (q%fst.length))
set_option maxRecDepth 100000 in
set_option maxHeartbeats 8000000 in
theorem qfq (bs:By) (na oa:Option Addr) (nc oc W:Nat) (NX OU:List Nat) (w:World) (hbl:bs.length=256) (hn0:0<OU.length) (hn1:OU.length≤256) (hW:NX.length=OU.length*W) (hW0:0<W) (hW1:W≤256) (hbw:∀b,b<256→(bs.getD b 0).toNat<W) (hnl:∀t,t<NX.length→gN NX t<OU.length) (hnx:NAt w na NX):
 Calls Tryz.prog 79 #[auV bs na NX.length nc oa OU.length oc] w fun e w'=>(∃of xa xn xc,e=.returned (auV (qav of) xa xn xc oa OU.length oc)∧∃num fst X,NwD NX bs OU.length W w.heap.size (.slice xa xn xc) num fst of X w')∧Below w.heap.size w w':=by
 obtain⟨i3,hi3,hz30,hz31,hz32⟩:=info_parts Tryz.info3n;have hmf:∀(fn:Fn) (first cap:Array Value) (w:World),(Instr.makeFunc fn first cap).run Tryz.prog w=.ok (.func fn first cap) w:=fun _ _ _ _=>rfl
 have hxl:NX.length≤65536:=by have:=Nat.mul_le_mul hn1 hW1;omega
 have hdiv:NX.length/OU.length=W:=by rw[hW];exact Nat.mul_div_cancel_left W hn0
 obtain⟨w2,hw2⟩:∃w2,w2=(w.alloc (.cells #[.string ⟨bs.toArray⟩,.slice na NX.length nc,.slice oa OU.length oc] 24)).alloc (.cells #[.string ⟨#[]⟩,.slice none 0 0,.slice none 0 0] 24):=⟨_,rfl⟩;obtain⟨X2,B1,B2,hs2⟩:Below w.heap.size w w2∧w2.heap[w.heap.size]? =some (.cells #[.string ⟨bs.toArray⟩,.slice na NX.length nc,.slice oa OU.length oc] 24 (0,0))∧w2.heap[w.heap.size+1]? =some (.cells #[.string ⟨#[]⟩,.slice none 0 0,.slice none 0 0] 24 (0,0))∧w2.heap.size=w.heap.size+2:=by
  have B1:=heap_alloc_new w (.cells #[.string ⟨bs.toArray⟩,.slice na NX.length nc,.slice oa OU.length oc] 24);have s1:(w.alloc (.cells #[.string ⟨bs.toArray⟩,.slice na NX.length nc,.slice oa OU.length oc] 24)).heap.size=w.heap.size+1:=by simp
  have hb1:Below w.heap.size w (w.alloc (.cells #[.string ⟨bs.toArray⟩,.slice na NX.length nc,.slice oa OU.length oc] 24)):=al (Below.refl _ _) _;rw[hw2];generalize w.alloc (.cells #[.string ⟨bs.toArray⟩,.slice na NX.length nc,.slice oa OU.length oc] 24)=wa at *;have B2:=heap_alloc_new wa (.cells #[.string ⟨#[]⟩,.slice none 0 0,.slice none 0 0] 24);have Y2:Below wa.heap.size wa (wa.alloc (.cells #[.string ⟨#[]⟩,.slice none 0 0,.slice none 0 0] 24)):=al (Below.refl _ _) _;rw[s1] at B2;exact⟨bt hb1 Y2 (Nat.le_refl _),(Y2.block _ (lt_of_block B1)).trans B1,B2,by simp[s1]⟩
 have HC:Hid (∀V,Below w2.heap.size w2 V→V.heap[w.heap.size]? =some (.cells #[.string ⟨bs.toArray⟩,.slice na NX.length nc,.slice oa OU.length oc] 24 (0,0))∧V.cell? ⟨w.heap.size,0,none⟩=some (.string ⟨bs.toArray⟩)∧V.cell? ⟨w.heap.size,1,none⟩=some (.slice na NX.length nc)∧V.cell? ⟨w.heap.size,2,none⟩=some (.slice oa OU.length oc)∧NAt V na NX):=fun V x=>by
  have Bv:=(x.block _ (lt_of_block B1)).trans B1;exact⟨Bv,by rw[cell_of_row _ _ _ _ _ _ Bv];rfl,by rw[cell_of_row _ _ _ _ _ _ Bv];rfl,by rw[cell_of_row _ _ _ _ _ _ Bv];rfl,hnx.below (bt X2 x (Nat.le_refl _))⟩
 have HX2:=qaa X2;have HB2:=qaa B2;have HS2:=qaa hs2;have HWL:=qaa hW;have HNL:=qaa hnl;have HBW:=qaa hbw;have HBL:=qaa hbl;clear X2 B1 B2 hs2 hW hnl hbw hnx;obtain⟨_,c0,c1,c2,_⟩:=HC.out w2 (Below.refl _ _);have HWD:=qaa (qb7 bs na oa NX.length nc OU.length oc w2 (by omega) hn0);rw[hdiv] at HWD;clear hdiv;unfold auV at HWD ⊢;go_enter Tryz.func79,Tryz.ntmps79;go_upto_region 1 with fail
 rw[←hw2];clear hw2;go_wp2_with (fail);refine HWD.out.mono ?_;rintro e w3 ⟨rfl,x3⟩;have y4:Below w3.heap.size w3 (w3.alloc (.cells #[.int .i64 (W:Int)] 3)):=al (Below.refl _ _) _;have B4:=heap_alloc_new w3 (.cells #[.int .i64 (W:Int)] 3);have X4:=qaa (bt x3 y4 (Nat.le_refl _));have hwbl:w3.heap.size<(w3.alloc (.cells #[.int .i64 (W:Int)] 3)).heap.size:=by simp
 have hge3:=x3.size;clear HWD x3 y4 c0 c1 c2;go_upto_region 2 with fail
 generalize w3.alloc (.cells #[.int .i64 (W:Int)] 3)=w4 at *;generalize w3.heap.size=wb at *;have cw:w4.cell? ⟨wb,0,none⟩=some (.int .i64 (W:Int)):=by rw[cell_of_row _ _ _ _ _ _ B4];rfl
 have HCW:Hid (∀V,Below w4.heap.size w4 V→V.cell? ⟨wb,0,none⟩=some (.int .i64 (W:Int))):=fun V x=>(x.cell (p:=⟨wb,0,none⟩) hwbl).trans cw
 have hkk:∀c,∃l,keyOf Tryz.prog 169 (.agg (mkB (ldB NX W c OU.length)))=some l:=fun c=>qgu (ldB NX W c OU.length) (qgw _ _ _ _) (fun x hx=>by
  obtain⟨k,hk,rfl⟩:=List.mem_map.1 hx;by_cases e:k<OU.length
  ·rw[if_pos e]
   by_cases e2:k*W+c<NX.length
   ·have:=HNL.out _ e2;omega
   ·simp[gN,List.getD_eq_getElem?_getD,List.getElem?_eq_none (Nat.le_of_not_lt e2)]
  ·rw[if_neg e];decide)
 obtain⟨lit,hlit⟩:∃lit:Nat→Lit,∀c,keyOf Tryz.prog 169 (.agg (mkB (ldB NX W c OU.length)))=some (lit c):=⟨fun c=>(hkk c).choose,fun c=>(hkk c).choose_spec⟩;have HLI:Hid (∀c d,lit c=lit d↔ldB NX W c OU.length=ldB NX W d OU.length):=fun c d=>by
  refine⟨fun e=>?_,fun e=>?_⟩
  ·have h1:=hlit c
   rw[e] at h1;have:=qc9.inj h1 (hlit d);injection this with this
   unfold mkB at this;have h2:(ldB NX W c OU.length).map (fun(b:Nat)=>Value.int .u8 (b:Int))=(ldB NX W d OU.length).map (fun(b:Nat)=>Value.int .u8 (b:Int)):=by
    have h3:=congrArg Array.toList this;simpa using h3
   exact List.map_inj_right (fun a b h4=>by injection h4 with _ h4;exact Int.ofNat.inj h4)|>.1 h2
  ·have h1:=hlit c
   rw[e,hlit d] at h1;exact(Option.some.inj h1).symm
 have HN:=qaa (qlc W (.pointer (some ⟨w.heap.size,0,none⟩)) (.pointer (some ⟨wb,0,none⟩)) (fun c=>mkB (ldB NX W c OU.length)) lit w4 (by omega) (fun i _=>hlit i) (fun i _=>qce _ _ _ _) (fun i _=>qjb _) (fun i _=>qc9.key (hlit i)) (fun i hi V x=>by
  obtain⟨Bv,_,_,_,kn⟩:=HC.out V (bt X4.out x (Nat.le_refl _));exact qew bs na oa nc oc OU.length i W w.heap.size wb NX V hn1 (by omega) (fun s hs=>by have:=qcd hs hi;rw[HWL.out];exact this) (fun t ht=>by have:=HNL.out t ht;omega) Bv (HCW.out V x) (Nat.lt_of_lt_of_le hwbl x.size) kn))
 clear hkk hlit;go_wp2_with (fail);refine HN.out.mono ?_;rintro e w5 ⟨⟨uv,fv,rfl,num,fst,hd⟩,x5⟩;clear HN cw B4;have hnf:qbf (fun c=>ldB NX W c OU.length) W (gN num) (gN fst) fst.length:=⟨hd.nf.numlt,fun i hi'=>(HLI.out _ _).1 (hd.nf.lk i hi'),hd.nf.fstlt,hd.nf.numfst,fun k hk i hi' e=>hd.nf.first k hk i hi' ((HLI.out _ _).2 e),hd.nf.inc⟩;have HNF:=qaa hnf;have hfl:fst.length≤W:=qax W fst.length (gN fst) hnf.fstlt (fun i h1 j h2 e=>by rw[←hnf.numfst i h1,←hnf.numfst j h2,e]);have HNM:Hid (num.length=W):=hd.len;have R5:Hid (Rws w5 w4.heap.size [(uv,num),(fv,fst)]):=(Rws.nil w5 w4.heap.size).two hd.o1 hd.o2 hd.ap;have X5:=qaa x5;obtain⟨fa,fc,hfv,_⟩:=qag (show w5.ownsRow w4.heap.size 3 1 fv fst.length (qab fst) from R5.out.own 1 (by simp));subst hfv;obtain⟨ua,uc,huv,_⟩:=qag (show w5.ownsRow w4.heap.size 3 1 uv num.length (qab num) from R5.out.own 0 (by simp));subst huv;have HS0:Hid (∀(w6:World),w6.ownsRow w4.heap.size 3 1 (.slice (some ⟨w5.heap.size,0,none⟩) 256 256) 256 (madeCells (Value.int .i64 0).cells (256*1)).toList→w5.grownBy w6 none→Rws w6 w4.heap.size [(.slice ua num.length uc,num),(.slice fa fst.length fc,fst),(.slice (some ⟨w5.heap.size,0,none⟩) 256 256,List.replicate 256 0)]∧Below w4.heap.size w4 w6):=fun w6 p1 p2=>by
  have x6:=qad p2;have o6:qan w6 w4.heap.size (.slice (some ⟨w5.heap.size,0,none⟩) 256 256) (List.replicate 256 0):=by unfold qan;rw[qbs] at p1;simpa using p1
  exact⟨R5.out.cons x6 o6 (fun b hb=>by have e:w5.heap.size=b:=Option.some.inj hb;omega),bt X5.out x6 (Nat.le_refl _)⟩
 clear hd x5 hnf R5;go_wp2_with (at_make;refine wpList_make_full _ rfl (.const (.int .i64 256)) (.const (.int .i64 256)) 22 rfl w4.heap.size 3 i3 (.int .i64 0) 1 Tryz.underlying22 hi3 hz30 hz31 .i64 .i64 _ _ 256 rfl rfl rfl rfl (by rw[hz32];decide) (by unfold maxLen;decide) X5.out.size ?_;intro w6 p1 p2;have S0:=qaa (HS0.out w6 p1 p2);clear p1 p2);clear HS0;generalize w5.heap.size=vg at *;go_loopg [23] 257 (fun g x wr=>∃(b:Nat) (of:List Nat),x=.int .i64 (b:Nat)∧Hid (Rws wr w4.heap.size [(.slice ua num.length uc,num),(.slice fa fst.length fc,fst),(.slice (some ⟨vg,0,none⟩) 256 256,of)]∧Below w4.heap.size w4 wr)∧Hid (of.length=256∧∀k,k<b→gN of k=gN num (bs.getD k 0).toNat)∧b≤256∧256-b<g)
 case atStart=>exact⟨0,_,rfl,S0,⟨by simp,fun k hk=>by omega⟩,by omega,by omega⟩
 case round=>
  obtain⟨b,of,rfl,S,HOF,hbl2,hg⟩:=hrel;have HG:=qaa hg;clear hg S0;obtain⟨_,c0,c1,c2,kn⟩:=HC.out wr (bt X4.out S.out.2 (Nat.le_refl _));by_cases hb:b<256
  ·have hb':(b:Int)<256:=by omega
   have hbb:b<bs.length:=by rw[HBL.out];exact hb
   have hyl:=HBW.out b hb;have hgd:bs.getD b 0=bs[b]:=by simp[List.getD_eq_getElem?_getD,hbb]
   have HYD:Hid ((bs.getD b 0).toNat=(bs[b]).toNat):=by unfold Hid;rw[hgd]
   rw[hgd] at hyl;obtain⟨y,hy⟩:∃y,bs[b]=y:=⟨_,rfl⟩;have hgy:∀hk,(⟨bs.toArray⟩:ByteArray)[b]'hk=y:=fun _=>hy
   rw[hy] at hyl HYD;have hlb:(b:Int)<(bs.length:Int):=by omega
   have hyn:y.toNat<num.length:=by have:=HNM.out;omega
   obtain⟨ug,hug,cu⟩:=qan.gcell (S.out.1.own 0 (by simp)) hyn;subst hug;have hyn':(y.toNat:Int)<(num.length:Int):=by omega
   obtain⟨x1,x2⟩:=qan.slot (S.out.1.own 2 (by simp)) (i:=b) (by show b<of.length;have:=HOF.out.1;omega);obtain⟨v1,x1⟩:∃v,wr.cell? ⟨vg,b,none⟩=some v:=⟨_,x1⟩;have r1:=S.out.1.store (i:=2) (by simp) rfl b (gN num y.toNat);have hvg:w4.heap.size≤vg:=(World.ownsRow.lt (show wr.ownsRow w4.heap.size 3 1 (.slice (some ⟨vg,0,none⟩) 256 256) of.length (qab of) from S.out.1.own 2 (by simp)) vg rfl).1;have S1:Hid (_∧_):=⟨r1,S.out.2.setCell (p:=⟨vg,b,none⟩) hvg (.int .i64 ((gN num y.toNat:Nat):Int))⟩;have HOF1:Hid ((of.set b (gN num y.toNat)).length=256∧∀k,k<b+1→gN (of.set b (gN num y.toNat)) k=gN num (bs.getD k 0).toNat):=⟨by rw[List.length_set];exact HOF.out.1,fun k hk=>by
    rw[qbw of (by have:=HOF.out.1;omega)];by_cases e:k=b
    ·rw[if_pos e,e,HYD.out]
    ·rw[if_neg e];exact HOF.out.2 k (by omega)⟩
   clear hy hgd r1 kn;generalize gN num y.toNat=z at *;go_wp2;go_roundg (256-(b+1)+1)
   case measure=>have:=HG.out;omega
   case rel=>exact⟨b+1,_,by first|rfl|go_num|(congr 1;omega),S1,HOF1,by omega,by omega⟩
  ·as_aux_lemma=>
    have hb':¬(b:Int)<256:=by omega
    obtain rfl:b=256:=by omega
    have hmm:fst.length*OU.length≤65536:=by have:=Nat.mul_le_mul (show fst.length≤256 by omega) hn1;omega
    have hmul:IntKind.i64.wrap ((fst.length:Int)*(OU.length:Int))=((fst.length*OU.length:Nat):Int):=by rw[show(fst.length:Int)*(OU.length:Int)=((fst.length*OU.length:Nat):Int) by simp];exact qak _ (by omega)
    have HS0:Hid (∀(w7:World) (c7:Nat),w7.ownsRow w4.heap.size 3 1 (.slice (some ⟨wr.heap.size,0,none⟩) 0 c7) 0 []→wr.grownBy w7 none→NwS NX W w4.heap.size w4 (.slice ua num.length uc) (.slice fa fst.length fc) (.slice (some ⟨vg,0,none⟩) 256 256) num fst of (.slice (some ⟨wr.heap.size,0,none⟩) 0 c7) [] 0 0 w7):=fun w7 c7 p1 p2=>by
     have x7:=qad p2;have o7:qan w7 w4.heap.size (.slice (some ⟨wr.heap.size,0,none⟩) 0 c7) []:=p1;exact⟨S.out.1.cons x7 o7 (fun b hb=>by have e:wr.heap.size=b:=Option.some.inj hb;omega),by simp,Nat.zero_le _,fun q hq=>by simp at hq,bt S.out.2 x7 (Nat.le_refl _)⟩
    have hsz4:=S.out.2.size;clear S kn;generalize hFW:fst.length*OU.length=FW at *;go_upto_region 10 with(at_make;refine wpList_make_own _ rfl (.const (.int .i64 0)) (.tmp 42) 22 rfl w4.heap.size 3 i3 (.int .i64 0) 1 Tryz.underlying22 hi3 hz30 hz31 .i64 .i64 _ FW rfl rfl rfl (by rw[hz32];omega) (by unfold maxLen;omega) hsz4 ?_;intro w7 p1 p2;have S0:=qaa (HS0.out w7 _ p1 p2);clear p1 p2)
    clear HS0 hFW hsz4 c0 c1 c2;obtain⟨_,c0,c1,c2,kn⟩:=HC.out w7 (bt X4.out S0.out.bel (Nat.le_refl _));clear kn;go_wp2;go_loopg [8,47] (OU.length+1) (fun g xv x wr=>∃(i:Nat) (X:List Nat),x=.int .i64 (i:Nat)∧Hid (NwS NX W w4.heap.size w4 (.slice ua num.length uc) (.slice fa fst.length fc) (.slice (some ⟨vg,0,none⟩) 256 256) num fst of xv X i 0 wr)∧i≤OU.length∧OU.length-i<g)
    case atStart=>exact⟨0,[],rfl,S0,by omega,by omega⟩
    case round=>
     obtain⟨i,X,rfl,S,hil,hg⟩:=hrel;have HG:=qaa hg;clear hg S0 c0 c1 c2;obtain⟨Bv,c0,c1,c2,kn⟩:=HC.out wr (bt X4.out S.out.bel (Nat.le_refl _));obtain⟨xa,xc,hxv⟩:=qan.shape (S.out.rws.own 3 (by simp));simp only[List.getElem_cons_succ,List.getElem_cons_zero] at hxv;subst hxv;by_cases hi:i<OU.length
     ·as_aux_lemma=>
       have hi':(i:Int)<(OU.length:Int):=by omega
       clear Bv kn c0 c1 c2;go_wp2;go_loopg [8,52] (fst.length+1) (fun g xv x wr=>∃(j:Nat) (X:List Nat),x=.int .i64 (j:Nat)∧Hid (NwS NX W w4.heap.size w4 (.slice ua num.length uc) (.slice fa fst.length fc) (.slice (some ⟨vg,0,none⟩) 256 256) num fst of xv X i j wr)∧fst.length-j<g)
       case atStart=>exact⟨0,X,rfl,S,by omega⟩
       case round=>
        obtain⟨j,X,rfl,S2,hg2⟩:=hrel;have HG2:=qaa hg2;clear hg2 S;have S:=S2;clear S2;obtain⟨xa,xc,hxv⟩:=qan.shape (S.out.rws.own 3 (by simp));simp only[List.getElem_cons_succ,List.getElem_cons_zero] at hxv;subst hxv;have hjl:=S.out.jl;by_cases hj:j<fst.length
        ·have hj':(j:Int)<(fst.length:Int):=by omega
         obtain⟨_,c0,c1,c2,kn⟩:=HC.out wr (bt X4.out S.out.bel (Nat.le_refl _));have cw:=HCW.out wr S.out.bel;obtain⟨fg,hfg,cf⟩:=qan.gcell (S.out.rws.own 1 (by simp)) hj;subst hfg;have hfc:=HNF.out.fstlt j hj;have hq:i*W+gN fst j<NX.length:=by have:=qcd hi hfc;rw[HWL.out];exact this
         obtain⟨nb,off,rfl,_,cx⟩:=kn.get hq;rw[←qah hq] at cx;have hXl:X.length≤131072:=by
          have h4:=S.out.len;have h5:=Nat.mul_le_mul (show i≤256 by omega) (show fst.length≤256 by omega);omega
         have HV:Hid (gN NX (i*W+gN fst j)=gN NX (i*W+gN fst j)):=rfl;have x5:=NmP.x5 wr (gN NX (i*W+gN fst j));have O6:Hid ((wr.alloc (.cells #[.int .i64 ((gN NX (i*W+gN fst j):Nat):Int)] 3)).ownsRow w4.heap.size 3 1 (.slice xa X.length xc) X.length (qab X)):=own_below (show wr.ownsRow w4.heap.size 3 1 (.slice xa X.length xc) X.length (qab X) from S.out.rws.own 3 (by simp)) x5;have HN6:=qaa (qbi wr (gN NX (i*W+gN fst j)) 3);have HS6:Hid (w4.heap.size≤(wr.alloc (.cells #[.int .i64 ((gN NX (i*W+gN fst j):Nat):Int)] 3)).heap.size):=Nat.le_trans S.out.bel.size x5.size;have HPA:=qaa (fun(w6:World) (v6:Value) g1 g2=>S.out.put (w':=w6) (xv':=v6) (Nat.le_refl _) hj HV.out x5 g1 g2);have hiW:i*W≤65536:=by have:=Nat.mul_le_mul (show i≤256 by omega) hW1;omega
         have f1:IntKind.i64.wrap ((i:Int)*(W:Int))=((i*W:Nat):Int):=by rw[show(i:Int)*(W:Int)=((i*W:Nat):Int) by simp];exact qak _ (by omega)
         clear x5 kn HV;generalize gN NX (i*W+gN fst j)=v at *;generalize gN fst j=cc at *;generalize i*W=m at *;have f3:IntKind.i64.wrap ((m:Int)+(cc:Int))=((m+cc:Nat):Int):=by rw[show(m:Int)+(cc:Int)=((m+cc:Nat):Int) by simp];exact qak _ (by omega)
         have hlt:(m:Int)+(cc:Int)<(NX.length:Int):=by omega
         have hlt2:((m:Int)+(cc:Int)).toNat=m+cc:=by omega
         have hlz:(0:Int)≤(m:Int)+(cc:Int):=by omega
         go_wp2_with (at_builtin;refine qac rfl (.tmp 56) (.tmp 66) 22 rfl w4.heap.size 3 i3 (.int .i64 0) 1 8 Tryz.underlying22 hi3 hz30 hz31 hz32 rfl (by decide) _ X.length (qab X) rfl O6.out ⟨wr.heap.size,0,none⟩ 1 1 [.int .i64 (v:Nat)] rfl rfl HN6.out (by simp[Value.oneCell']) (by decide) (by unfold maxLen;omega) (by omega) HS6.out ?_;intro v6 w6 g1 g2;have S6:=qaa (HPA.out w6 v6 g1 g2);clear g1 g2);go_roundg (fst.length-(j+1)+1)
         case measure=>have:=HG2.out;omega
         case rel=>exact⟨j+1,X++[v],by first|rfl|go_num|(congr 1;omega),S6,by omega⟩
        ·have hj':¬(j:Int)<(fst.length:Int):=by omega
         obtain rfl:j=fst.length:=by omega
         have S7:Hid (NwS NX W w4.heap.size w4 (.slice ua num.length uc) (.slice fa fst.length fc) (.slice (some ⟨vg,0,none⟩) 256 256) num fst of (.slice xa X.length xc) X (i+1) 0 wr):=⟨S.out.rws,by rw[S.out.len,Nat.succ_mul];omega,Nat.zero_le _,S.out.val,S.out.bel⟩;have hiw:IntKind.i64.wrap ((i:Int)+1)=((i+1:Nat):Int):=by simp[IntKind.wrap,IntKind.bits,IntKind.signed];omega
         go_wp2;go_roundg (OU.length-(i+1)+1)
         case measure=>have:=HG.out;omega
         case rel=>exact⟨i+1,X,by first|rfl|go_num|(congr 1;omega),S7,by omega,by omega⟩
     ·as_aux_lemma=>
       have hi':¬(i:Int)<(OU.length:Int):=by omega
       obtain rfl:i=OU.length:=by omega
       have hofl:=HOF.out.1;have hat:NAt wr.drew (some ⟨vg,0,none⟩) of:=by
        obtain⟨ao,cap,e,h9⟩:=(S.out.rws.own 2 (by simp)).at;injection e with e _ _
        rw[←e] at h9;exact h9
       have HBC:=qaa (qbn (some ⟨vg,0,none⟩) 256 of wr.drew (by rw[hofl];decide) (fun x hx=>by
        obtain⟨k,hk,rfl⟩:=List.mem_iff_getElem.1 hx;have h1:=HOF.out.2 k (by omega);rw[qah hk] at h1;have h2:=HNF.out.numlt _ (HBW.out k (by omega));omega) hat)
       rw[hofl] at HBC;have lw:w.heap.size<wr.heap.size:=lt_of_block Bv;have hlt2:=lt_of_block HB2.out;have hs2:=HS2.out;have hx4:=X4.out.size;have HFN:=qaa (fun(w9:World) (x9:Below wr.drew.heap.size wr.drew w9)=>
        have y9:Below wr.heap.size wr w9:=(Below.refl _ wr).drew.trans x9
        st3 ((bt (bt X4.out S.out.bel (Nat.le_refl _)) y9 (Nat.le_refl _)).block _ hlt2|>.trans HB2.out) (.string ⟨(qav of).toArray⟩) (.slice xa X.length xc) (.slice oa OU.length oc))
       have HEND:=qaa (fun(w9:World) (x9:Below wr.drew.heap.size wr.drew w9) (wf:World) (kf:Kept (fun i=>i=w.heap.size+1) w9 wf)=>(show NwD NX bs OU.length W w.heap.size (.slice xa X.length xc) num fst of X wf∧Below w.heap.size w wf from by
        have y9:Below wr.heap.size wr w9:=(Below.refl _ wr).drew.trans x9;have S9:=S.out.below (Nat.le_refl _) y9;have ox:=S9.rws.own 3 (by simp);have o9:qan wf w4.heap.size (.slice xa X.length xc) X:=qai ox kf (fun b hb e=>by
         have:=(World.ownsRow.lt (show w9.ownsRow w4.heap.size 3 1 (.slice xa X.length xc) X.length (qab X) from ox) b hb).1;omega)
        refine⟨⟨o9.mono' (by omega),HNF.out,hofl,HOF.out.2,by have:=S.out.len;omega,S.out.val⟩,?_⟩;have b9:=bt HX2.out (bt X4.out S9.bel (Nat.le_refl _)) (Nat.le_refl _);exact b9.trans (kf.below (by have:=S9.bel.size;omega) (fun b hb=>by omega))))
       clear hat kn Bv c0 c1 S hofl;go_wp2;go_region_held3 (fun w'=>w'.cell? ⟨w.heap.size,2,none⟩=some (.slice oa OU.length oc)) (first|assumption|exact c2|(simp[go_sem, *];done))
        ((go_at_call 48;refine HBC.out.mono ?_;rintro e w9 ⟨rfl,x9⟩;have y2:=(x9.cell (p:=⟨w.heap.size,2,none⟩) lw).trans c2;obtain⟨g0,f0,g1,f1,g2,f2,B6,k6⟩:=HFN.out w9 x9;have d0:=cell_of_row _ _ 0 _ _ _ B6;have d1:=cell_of_row _ _ 1 _ _ _ B6;have d2:=cell_of_row _ _ 2 _ _ _ B6;have HE:=qaa (HEND.out w9 x9 _ k6);clear x9 B6 k6))
       go_wp2;refine bodyPost_ret (by simp[results,Tryz.results79,go_sem,d0,d1,d2];try rfl) rfl ?_;exact⟨⟨of,_,_,_,rfl,num,fst,X,HE.out.1⟩,HE.out.2⟩
end Go.Proofs.YtdgoilkgplnhfaaGreat
namespace Go.Proofs.YtdgoilkgplnhfaaGreat
open Go.RowKit Go.Lib
theorem qds.slot' {w:World} {base g n cap:Nat} {L:List Nat} (h:qds w base (.slice (some ⟨g,0,none⟩) n cap) L) {i:Nat} (hi:i<L.length):w.cell? ⟨g,i,none⟩=some (.int .u8 ((gN L i:Nat):Int))∧w.frozen? ⟨g,i,none⟩=false:=by
 have hh:w.ownsRow base 5 1 (.slice (some ⟨g,0,none⟩) n cap) L.length (qar L):=h;have hn:n=L.length:=by
  rcases hh.2 with⟨e,e2⟩|⟨g',c',cur,e,_⟩
  ·cases e
  ·injection e with _ e2 _
 subst hn;refine⟨?_,hh.frozenAt _⟩;rw[hh.cellAt i (by omega),qah hi];simp[qar,hi]
theorem qds.store' {w:World} {base g cap n:Nat} {L:List Nat} (h:qds w base (.slice (some ⟨g,0,none⟩) n cap) L) (i x:Nat):qds (w.setCell ⟨g,i,none⟩ (.int .u8 (x:Int))) base (.slice (some ⟨g,0,none⟩) n cap) (L.set i x)∧Kept (fun k=>k=g) w (w.setCell ⟨g,i,none⟩ (.int .u8 (x:Int))):=by
 have hh:w.ownsRow base 5 1 (.slice (some ⟨g,0,none⟩) n cap) L.length (qar L):=h;have hn:n=L.length:=by
  rcases hh.2 with⟨e,e2⟩|⟨g',c',cur,e,_⟩
  ·cases e
  ·injection e with _ e2 _
 subst hn;obtain⟨h1,h2⟩:=hh.stored i (.int .u8 (x:Int));refine⟨?_,(qae h2).mono (fun k hk=>by injection hk with hk;exact hk.symm)⟩;unfold qds;rw[List.length_set,show qar (L.set i x)=(qar L).set i (.int .u8 (x:Int)) by simp[qar,List.map_set]];exact h1
def Rvk (L R:List Nat) (k:Nat):Prop:=R.length=L.length∧∀q,q<L.length→gN R q=if q<k∨L.length-k≤q then gN L (L.length-1-q) else gN L q
theorem qjc (L:List Nat) (i x q:Nat) (h:q<L.length):gN (L.set i x) q=if i=q then x else gN L q:=by
 rw[qah (by rw[List.length_set];exact h),qah h,List.getElem_set]
theorem Rvk.next {L R:List Nat} {k:Nat} (h:Rvk L R k) (hk:k<L.length-1-k):Rvk L ((R.set k (gN R (L.length-1-k))).set (L.length-1-k) (gN R k)) (k+1):=by
 refine⟨by rw[List.length_set,List.length_set,h.1],fun q hq=>?_⟩;have hR:=h.1;rw[qjc _ _ _ _ (by rw[List.length_set,hR];exact hq),qjc _ _ _ _ (by rw[hR];exact hq)];have h1:=h.2 k (by omega);have h2:=h.2 (L.length-1-k) (by omega);rw[if_neg (by omega)] at h1 h2;by_cases e1:L.length-1-k=q
 ·rw[if_pos e1,if_pos (by omega),h1]
  congr 1
  omega
 ·rw[if_neg e1]
  by_cases e2:k=q
  ·rw[if_pos e2,if_pos (by omega),h2]
   congr 1
   omega
  ·rw[if_neg e2,h.2 q hq]
   by_cases h3:q<k∨L.length-k≤q
   ·rw[if_pos h3,if_pos (by omega)]
   ·rw[if_neg h3,if_neg (by omega)]
theorem Rvk.done {L R:List Nat} {k:Nat} (h:Rvk L R k) (hk:¬(k:Int)<(L.length:Int)-1-k):R=L.reverse:=by
 apply List.ext_getElem
 ·rw[h.1,List.length_reverse]
 ·intro q h1 h2
  have hq:q<L.length:=by rw[←h.1];exact h1
  have h3:=h.2 q hq;rw[qah h1] at h3;rw[h3,List.getElem_reverse];split
  ·exact qah _
  ·rw[qah hq]
   congr 1
   omega
set_option maxRecDepth 100000 in
set_option maxHeartbeats 4000000 in
theorem qgz (base g cap:Nat) (L:List Nat) (w:World) (hl:L.length≤4294967296) (ho:qds w base (.slice (some ⟨g,0,none⟩) L.length cap) L):
 Calls Tryz.prog 101 #[.slice (some ⟨g,0,none⟩) L.length cap] w fun e w'=>e=.returned (.tuple #[])∧qds w' base (.slice (some ⟨g,0,none⟩) L.length cap) L.reverse∧Kept (fun k=>k=g) w w':=by
 have HO:=qaa ho;have hg:=(World.ownsRow.lt (show w.ownsRow base 5 1 (.slice (some ⟨g,0,none⟩) L.length cap) L.length (qar L) from ho) g rfl).2;have HR0:Hid (Rvk L L 0):=⟨rfl,fun q hq=>by rw[if_neg (by omega)]⟩;have w0:IntKind.i64.wrap ((L.length:Int)-1)=(L.length:Int)-1:=by simp[IntKind.wrap,IntKind.bits,IntKind.signed];omega
 clear ho;go_enter Tryz.func101,Tryz.ntmps101;go_wp2;go_loopg [2,3] (L.length+1) (fun gg x y wr=>∃(k:Nat) (R:List Nat),x=.int .i64 (k:Nat)∧y=.int .i64 ((L.length:Int)-1-(k:Int))∧Hid (qds wr base (.slice (some ⟨g,0,none⟩) L.length cap) R)∧Hid (Rvk L R k)∧Hid (Kept (fun k=>k=g) w wr)∧k≤L.length∧L.length-k<gg)
 case atStart=>exact⟨0,L,rfl,by congr 1;simp,HO,HR0,Kept.refl _ _,by omega,by omega⟩
 case round=>
  obtain⟨k,R,rfl,rfl,O,RV,KP,hk,hgg⟩:=hrel;have HG:=qaa hgg;clear hgg HR0;by_cases hlt:k<L.length-1-k
  ·have hlt':(k:Int)<(L.length:Int)-1-(k:Int):=by omega
   have hRl:=RV.out.1;obtain⟨j,hj⟩:∃j,Hid (j=L.length-1-k):=⟨_,rfl⟩;have hj1:(L.length:Int)-1-(k:Int)=(j:Int):=by rw[hj.out];omega
   have hjk:¬k=j:=by rw[hj.out];omega
   have hjl:j<L.length:=by rw[hj.out];omega
   have hkj:(k:Int)<(j:Int):=by omega
   have hjl':(j:Int)<(L.length:Int):=by omega
   have hkl':(k:Int)<(L.length:Int):=by omega
   obtain⟨x1,x2⟩:=O.out.slot' (i:=k) (by omega);obtain⟨x3,x4⟩:=O.out.slot' (i:=j) (by omega);have RN:=qaa (RV.out.next hlt);rw[←hj.out] at RN;have O':qds wr.drew base (.slice (some ⟨g,0,none⟩) L.length cap) R:=own_below O.out (Below.refl _ _).drew;have kd:Kept (fun k=>k=g) wr wr.drew:=Kept.of_below (Below.refl _ _).drew;obtain⟨o1,k1⟩:=O'.store' k (gN R j);obtain⟨o2,k2⟩:=o1.store' j (gN R k);have ON:=qaa o2;have KN:=qaa (((KP.out.trans kd).trans k1).trans k2);obtain⟨y3,y4⟩:=o1.slot' (i:=j) (by rw[List.length_set];omega);rw[hj1];have wk:IntKind.i64.wrap ((k:Int)+1)=((k+1:Nat):Int):=by rw[show(k:Int)+1=((k+1:Nat):Int) by simp];exact qak _ (by omega)
   have wj:IntKind.i64.wrap ((j:Int)-1)=(j:Int)-1:=by simp[IntKind.wrap,IntKind.bits,IntKind.signed];omega
   have HJ1:=qaa hj1;clear hj1 o1 k1 o2 k2 O' kd;generalize gN R k=u at *;generalize gN R j=v at *;go_wp2;go_region
   all_goals
    go_wp2;go_roundg (L.length-(k+1)+1)
    case measure=>have:=HG.out;omega
    case rel=>exact⟨k+1,_,by first|rfl|go_num|(congr 1;omega),by congr 1;have:=HJ1.out;omega,ON,RN,KN,by omega,by omega⟩
  ·have hlt':¬(k:Int)<(L.length:Int)-1-(k:Int):=by omega
   have RD:=qaa (RV.out.done hlt');go_wp2;refine bodyPost_end (v:=.tuple #[]) (results_none rfl _ _ _) rfl ?_;exact⟨rfl,by rw[←RD.out];exact O.out,KP.out⟩
def IxP (L:List Int) (v:Int) (e:Ending):Prop:=
 (∃i:Nat,e=.returned (.int .i64 (i:Int))∧L[i]? =some v∧∀j,j<i→L[j]? ≠some v)∨(e=.returned (.int .i64 (-1))∧v∉L)
set_option maxRecDepth 100000 in
theorem qd0 (ao:Option Addr) (cap:Nat) (L:List Int) (v:Int) (w:World) (hl:L.length≤140737488351232) (hat:ZAt w ao L):
 Calls Tryz.prog 66 #[.slice ao L.length cap,.int .i64 v] w fun e w'=>IxP L v e∧w'=w:=by
 have HAT:=qaa hat;clear hat;go_enter Tryz.func66,Tryz.ntmps66;go_wp2;go_loopg [8] (L.length+1) (fun g x wr=>∃k:Nat,x=.int .i64 (k:Nat)∧k≤L.length∧Hid (∀j,j<k→L[j]? ≠some v)∧wr=w∧L.length-k<g)
 case atStart=>exact⟨0,rfl,by omega,fun j hj=>by omega,rfl,by omega⟩
 case round=>
  obtain⟨k,rfl,hk1,HA,rfl,hg⟩:=hrel;have HG:=qaa hg;clear hg;by_cases hk:k<L.length
  ·have hk':(k:Int)<(L.length:Int):=by omega
   obtain⟨b,off,rfl,c0⟩:=HAT.out.get hk;obtain⟨z,hz⟩:∃z,L[k]=z:=⟨_,rfl⟩;have HZ:Hid (L[k]? =some z):=by unfold Hid;rw[List.getElem?_eq_getElem hk,hz]
   rw[hz] at c0;clear hz;by_cases hv:v=z
   ·subst hv
    go_wp2;go_ret;exact⟨.inl ⟨k,rfl,HZ.out,HA.out⟩,rfl⟩
   ·have HV:Hid (∀j,j<k+1→L[j]? ≠some v):=fun j hj=>by
     by_cases e:j=k
     ·rw[e,HZ.out];intro h;injection h with h;exact hv h.symm
     ·exact HA.out j (by omega)
    go_wp2;go_roundg (L.length-(k+1)+1)
    case measure=>have:=HG.out;omega
    case rel=>exact⟨k+1,by first|rfl|go_num|(congr 1;omega),by omega,HV,rfl,by omega⟩
  ·have hk':¬(k:Int)<(L.length:Int):=by omega
   obtain rfl:k=L.length:=by omega
   go_wp2;go_ret;refine⟨.inr ⟨rfl,fun h=>?_⟩,rfl⟩;obtain⟨i,hi,e⟩:=List.getElem_of_mem h;exact HA.out i hi (by rw[List.getElem?_eq_getElem hi,e])
end Go.Proofs.YtdgoilkgplnhfaaGreat
namespace Go.Proofs.YtdgoilkgplnhfaaGreat
def Lx:List Nat→List Nat→Prop
 |[],_=>True
 |_::_,[]=>False
 |a::t,b::u=>a<b∨(a=b∧Lx t u)
structure DF.Met (D:DF) (s p c:Nat):Prop where
 lt:p<s
 cw:c<D.W
 goes:D.nx p c=s
 ft:∀p' c',c'<D.W→qgi p' c' p c→D.nx p' c'<s
structure DF.Fst (D:DF) (c b:Nat):Prop where
 lt:b<256
 is:D.bc b=c
 ft:∀b',b'<b→D.bc b'≠c
inductive DF.LT (D:DF):Nat→List Nat→Prop
 |zero:D.LT 0 []
 |step {s p c b:Nat} {t:List Nat}:D.Met s p c→D.Fst c b→D.LT p t→D.LT s (t++[b])
section
variable {D:DF}
theorem DF.LT.run {s:Nat} {t:List Nat} (h:D.LT s t):Txt t∧D.run 0 t=s:=by
 induction h with
 |zero=>exact⟨Txt.nil,rfl⟩
 |step m f _ ih=>
  refine⟨ih.1.snoc f.lt,?_⟩;rw[DF.run_snoc,ih.2];unfold DF.step;rw[f.is,m.goes]
end
section
variable {D:DF} (R:D.Right)
include R
end
end Go.Proofs.YtdgoilkgplnhfaaGreat

