/-
  The code's backwards by its contract. Condition: the automaton may be.
-/
import Derived.Deep.RegionWith
import Derived.Laws.MakeOwn
import Derived.Test.YtdgoilkgplnhfaaGreatJ11
namespace Go.Proofs.YtdgoilkgplnhfaaGreat
open Go.RowKit Go.Lib
structure BkM (w0:World) (n W bb sg fg:Nat) (S F:List Nat) (w:World):Prop where
 blk:w.heap[bb]? =some (.cells #[.int .i64 (n:Int),.slice (some ⟨sg,0,none⟩) (n*W+1) (n*W+1),.slice (some ⟨fg,0,none⟩) (n*W) (n*W)] 157 (0,0))
 rws:Rws w w0.heap.size [(.slice (some ⟨sg,0,none⟩) (n*W+1) (n*W+1),S),(.slice (some ⟨fg,0,none⟩) (n*W) (n*W),F)]
 ge:w0.heap.size≤bb
 bel:Below w0.heap.size w0 w
section
variable {w0 w w':World} {n W bb sg fg:Nat} {S F:List Nat}
theorem BkM.below (h:BkM w0 n W bb sg fg S F w) (x:Below w.heap.size w w'):BkM w0 n W bb sg fg S F w':=
 ⟨(x.block bb (lt_of_block h.blk)).trans h.blk,h.rws.below x,h.ge,h.bel.trans (x.mono h.bel.size)⟩
theorem BkM.ne (h:BkM w0 n W bb sg fg S F w):¬bb=sg∧¬bb=fg∧¬sg=fg:=by
 refine⟨fun e=>?_,fun e=>?_,fun e=>h.rws.ap 0 (by simp) 1 (by simp) (by decide) sg rfl (by rw[e];rfl)⟩
 ·obtain⟨cs,hc⟩:=qbl (show w.ownsRow w0.heap.size 3 1 (.slice (some ⟨sg,0,none⟩) (n*W+1) (n*W+1)) S.length (qab S) from h.rws.own 0 (by simp)) sg rfl
  rw[←e,h.blk] at hc;simp at hc
 ·obtain⟨cs,hc⟩:=qbl (show w.ownsRow w0.heap.size 3 1 (.slice (some ⟨fg,0,none⟩) (n*W) (n*W)) F.length (qab F) from h.rws.own 1 (by simp)) fg rfl
  rw[←e,h.blk] at hc;simp at hc
theorem BkM.setS (h:BkM w0 n W bb sg fg S F w) (i x:Nat):BkM w0 n W bb sg fg (S.set i x) F (w.setCell ⟨sg,i,none⟩ (.int .i64 (x:Int))):=by
 have hg:=(World.ownsRow.lt (show w.ownsRow w0.heap.size 3 1 (.slice (some ⟨sg,0,none⟩) (n*W+1) (n*W+1)) S.length (qab S) from h.rws.own 0 (by simp)) sg rfl).1;have k1:Kept (fun b=>b=sg) w (w.setCell ⟨sg,i,none⟩ (.int .i64 (x:Int))):=(Kept.refl (fun b=>b=sg) w).setCell (p:=⟨sg,i,none⟩) rfl _;exact⟨(k1.block bb (lt_of_block h.blk) h.ne.1).trans h.blk,h.rws.store (i:=0) (by simp) rfl i x,h.ge,h.bel.trans (k1.below h.bel.size (fun b hb=>by omega))⟩
theorem BkM.setF (h:BkM w0 n W bb sg fg S F w) (i x:Nat):BkM w0 n W bb sg fg S (F.set i x) (w.setCell ⟨fg,i,none⟩ (.int .i64 (x:Int))):=by
 have hg:=(World.ownsRow.lt (show w.ownsRow w0.heap.size 3 1 (.slice (some ⟨fg,0,none⟩) (n*W) (n*W)) F.length (qab F) from h.rws.own 1 (by simp)) fg rfl).1;have k1:Kept (fun b=>b=fg) w (w.setCell ⟨fg,i,none⟩ (.int .i64 (x:Int))):=(Kept.refl (fun b=>b=fg) w).setCell (p:=⟨fg,i,none⟩) rfl _;exact⟨(k1.block bb (lt_of_block h.blk) h.ne.2.1).trans h.blk,h.rws.store (i:=1) (by simp) rfl i x,h.ge,h.bel.trans (k1.below h.bel.size (fun b hb=>by omega))⟩
theorem BkM.cells (h:BkM w0 n W bb sg fg S F w):w.cell? ⟨bb,0,none⟩=some (.int .i64 (n:Int))∧w.cell? ⟨bb,1,none⟩=some (.slice (some ⟨sg,0,none⟩) (n*W+1) (n*W+1))∧w.cell? ⟨bb,2,none⟩=some (.slice (some ⟨fg,0,none⟩) (n*W) (n*W)):=
 ⟨by rw[cell_of_row _ _ _ _ _ _ h.blk];rfl,by rw[cell_of_row _ _ _ _ _ _ h.blk];rfl,by rw[cell_of_row _ _ _ _ _ _ h.blk];rfl⟩
theorem BkM.atS (h:BkM w0 n W bb sg fg S F w) {i:Nat} (hi:i<S.length):w.cell? ⟨sg,i,none⟩=some (.int .i64 ((gN S i:Nat):Int))∧w.frozen? ⟨sg,i,none⟩=false:=by
 obtain⟨a,b⟩:=qan.slot (h.rws.own 0 (by simp)) (i:=i) hi;rw[qah hi];exact⟨a,b⟩
theorem BkM.atF (h:BkM w0 n W bb sg fg S F w) {i:Nat} (hi:i<F.length):w.cell? ⟨fg,i,none⟩=some (.int .i64 ((gN F i:Nat):Int))∧w.frozen? ⟨fg,i,none⟩=false:=by
 obtain⟨a,b⟩:=qan.slot (h.rws.own 1 (by simp)) (i:=i) hi;rw[qah hi];exact⟨a,b⟩
end
theorem qc8 (w:World) (base g n:Nat) (hb:base≤g) (hn:n≤maxLen) (hg:w.heap[g]? =some (.cells (madeCells #[.int .i64 0] n) 3 (0,0))):qan w base (.slice (some ⟨g,0,none⟩) n n) (List.replicate n 0):=by
 unfold qan;refine⟨by simp[qab],.inr ⟨g,n,_,by simp,hb,hg,by simp,hn,by simp[madeCells],?_⟩⟩;have:=qbs n;simp only[Value.cells,Nat.mul_one] at this;rw[this];simp[qab]
theorem qap (w:World) (a b:Array Value) (T T':TypeId):Below w.heap.size w ((w.alloc (.cells a T)).alloc (.cells b T'))∧((w.alloc (.cells a T)).alloc (.cells b T')).heap[w.heap.size]? =some (.cells a T (0,0))∧((w.alloc (.cells a T)).alloc (.cells b T')).heap[w.heap.size+1]? =some (.cells b T' (0,0))∧((w.alloc (.cells a T)).alloc (.cells b T')).heap.size=w.heap.size+2:=by
 have B1:=heap_alloc_new w (.cells a T);have s1:(w.alloc (.cells a T)).heap.size=w.heap.size+1:=by simp
 have hb1:Below w.heap.size w (w.alloc (.cells a T)):=al (Below.refl _ _) _;generalize w.alloc (.cells a T)=wa at *;have B2:=heap_alloc_new wa (.cells b T');have Y2:Below wa.heap.size wa (wa.alloc (.cells b T')):=al (Below.refl _ _) _;have s2:(wa.alloc (.cells b T')).heap.size=wa.heap.size+1:=by simp
 rw[s1] at B2;exact⟨bt hb1 Y2 (Nat.le_refl _),(Y2.block _ (lt_of_block B1)).trans B1,B2,by omega⟩
theorem qa4 (V:World) (a b c:Array Value) (T T' T2:TypeId):Below V.heap.size V (((V.alloc (.cells a T)).alloc (.cells b T')).alloc (.cells c T2)).drew∧(((V.alloc (.cells a T)).alloc (.cells b T')).alloc (.cells c T2)).drew.heap[V.heap.size]? =some (.cells a T (0,0))∧(((V.alloc (.cells a T)).alloc (.cells b T')).alloc (.cells c T2)).drew.heap[V.heap.size+1]? =some (.cells b T' (0,0))∧(((V.alloc (.cells a T)).alloc (.cells b T')).alloc (.cells c T2)).drew.heap[V.heap.size+1+1]? =some (.cells c T2 (0,0)):=by
 obtain⟨x,b1,b2,hs⟩:=qap V a b T T';generalize (V.alloc (.cells a T)).alloc (.cells b T')=wa at *;have B2:=heap_alloc_new wa (.cells c T2);have Y2:Below wa.heap.size wa (wa.alloc (.cells c T2)):=al (Below.refl _ _) _;rw[hs] at B2;exact⟨(bt x Y2 (Nat.le_refl _)).drew,(Y2.block _ (lt_of_block b1)).trans b1,(Y2.block _ (lt_of_block b2)).trans b2,B2⟩
theorem BkM.mk3 {w0 V wx:World} {n W nW bb sg fg:Nat} (hnW:n*W=nW) (hm:nW+1≤maxLen) (x0:Below w0.heap.size w0 V) (x:Below V.heap.size V wx) (h1:wx.heap[bb]? =some (.cells #[.int .i64 (n:Int),.slice (some ⟨sg,0,none⟩) (nW+1) (nW+1),.slice (some ⟨fg,0,none⟩) nW nW] 157 (0,0))) (h2:wx.heap[sg]? =some (.cells (madeCells #[.int .i64 0] (nW+1)) 3 (0,0))) (h3:wx.heap[fg]? =some (.cells (madeCells #[.int .i64 0] nW) 3 (0,0))) (hne:¬sg=fg) (g1:V.heap.size≤bb) (g2:V.heap.size≤sg) (g3:V.heap.size≤fg):BkM w0 n W bb sg fg (List.replicate (n*W+1) 0) (List.replicate (n*W) 0) wx:=by
 subst hnW;have hsz:=x0.size;refine⟨h1,(Rws.nil wx w0.heap.size).two (qc8 wx w0.heap.size sg _ (by omega) hm h2) (qc8 wx w0.heap.size fg _ (by omega) (by omega) h3) (fun b e1 e2=>hne ?_),by omega,bt x0 x (Nat.le_refl _)⟩;have e1:sg=b:=Option.some.inj e1;have e2:fg=b:=Option.some.inj e2;omega
theorem qeu (n:Nat) (L:Int) (hL:L=(n:Int)) (hn:n≤16777217) (V:World):(Instr.makeSlice 22 (.int .i64 L) (.int .i64 L)).run Tryz.prog V=.ok (.slice (some ⟨V.heap.size,0,none⟩) n n) (V.alloc (.cells (madeCells #[.int .i64 0] n) 3)):=by
 obtain⟨i3,hi3,hz30,hz31,hz32⟩:=info_parts Tryz.info3n;subst hL;have:=run_make V 22 3 i3 (.int .i64 0) (P:=Tryz.prog) Tryz.underlying22 hi3 hz30 .i64 .i64 (n:Int) (n:Int) (by omega) (by omega) (by rw[hz32];omega) (by omega);rw[this,hz31,Int.toNat_natCast,Nat.mul_one];rfl
set_option maxRecDepth 100000 in
set_option maxHeartbeats 8000000 in
theorem qk2 (bs:By) (na oa:Option Addr) (nc oc W:Nat) (NX OU:List Nat) (w:World) (hn0:0<OU.length) (hn1:OU.length≤65536) (hW:NX.length=OU.length*W) (hW0:0<W) (hW1:W≤256) (hnl:∀t,t<NX.length→gN NX t<OU.length) (hnx:NAt w na NX):
 Calls Tryz.prog 114 #[auV bs na NX.length nc oa OU.length oc] w fun e w'=>(∃sg fg,e=.returned (bkV OU.length sg (OU.length*W+1) (OU.length*W+1) fg (OU.length*W) (OU.length*W))∧∃S F,BkS OU.length W NX S F∧Rws w' w.heap.size [(.slice (some ⟨sg,0,none⟩) (OU.length*W+1) (OU.length*W+1),S),(.slice (some ⟨fg,0,none⟩) (OU.length*W) (OU.length*W),F)])∧Below w.heap.size w w':=by
 obtain⟨i3,hi3,hz30,hz31,hz32⟩:=info_parts Tryz.info3n;have hdiv:NX.length/OU.length=W:=by rw[hW];exact Nat.mul_div_cancel_left W hn0
 have hnW:OU.length*W≤16777216:=Nat.mul_le_mul hn1 hW1;have HWL:=qaa hW;have HNL:=qaa hnl;have HNX:=qaa hnx;clear hW hnl hnx;have hw2:∃w2,w2=(w.alloc (.cells #[.string ⟨bs.toArray⟩,.slice na NX.length nc,.slice oa OU.length oc] 24)).alloc (.cells #[.int .i64 0,.slice none 0 0,.slice none 0 0] 157):=⟨_,rfl⟩;obtain⟨w2,hw2⟩:=hw2;unfold auV;go_enter Tryz.func114,Tryz.ntmps114;go_upto_region 1 with fail
 rw[←hw2];obtain⟨X2,B1,B2,hs2⟩:=qap w #[.string ⟨bs.toArray⟩,.slice na NX.length nc,.slice oa OU.length oc] #[.int .i64 0,.slice none 0 0,.slice none 0 0] 24 157;rw[←hw2] at X2 B1 B2 hs2;clear hw2;have HX2:=qaa X2;have HB1:=qaa B1;have HB2:=qaa B2;have HS2:=qaa hs2;have l1:=lt_of_block B1;have HWD:=fun V=>qb7 bs na oa NX.length nc OU.length oc V (by have:=HWL.out;omega) hn0
 rw[hdiv] at HWD;unfold auV at HWD;have c0:w2.cell? ⟨w.heap.size,0,none⟩=some (.string ⟨bs.toArray⟩):=by rw[cell_of_row _ _ _ _ _ _ B1];rfl
 have c1:w2.cell? ⟨w.heap.size,1,none⟩=some (.slice na NX.length nc):=by rw[cell_of_row _ _ _ _ _ _ B1];rfl
 have c2:w2.cell? ⟨w.heap.size,2,none⟩=some (.slice oa OU.length oc):=by rw[cell_of_row _ _ _ _ _ _ B1];rfl
 have HDr:Hid (Below w2.heap.size w2 w2.drew):=(Below.refl _ _).drew;clear X2 B1 B2 hs2 hdiv;refine wp_region_quiet (C:=fun w'=>Below w2.heap.size w2 w') (by kernel_rfl) (by kernel_rfl) HDr.out ?_;refine QW.out (l:=_::_) ?_
 iterate 4 (refine QW.take (by rfl) ?_;apply Exists.intro;refine⟨fun w' hw'=>?_,?_⟩;(·(have g0:=(hw'.cell (p:=⟨w.heap.size,0,none⟩) l1).trans c0;have g1:=(hw'.cell (p:=⟨w.heap.size,1,none⟩) l1).trans c1;have g2:=(hw'.cell (p:=⟨w.heap.size,2,none⟩) l1).trans c2;go_simp;first|done|(first|done|rfl)));try simp only[Act.put,List.setIfInBounds_toArray,List.set_cons_zero,List.set_cons_succ])
 iterate 1 (refine QW.take (by rfl) ?_;apply Exists.intro;refine⟨fun w' hw'=>?_,?_⟩;(·(have g0:=(hw'.cell (p:=⟨w.heap.size,0,none⟩) l1).trans c0;have g1:=(hw'.cell (p:=⟨w.heap.size,1,none⟩) l1).trans c1;have g2:=(hw'.cell (p:=⟨w.heap.size,2,none⟩) l1).trans c2;go_simp;(refine(HWD _).mono ?_;rintro e w4 ⟨rfl,x4⟩;exact⟨rfl,hw'.trans (x4.mono hw'.size)⟩)));try simp only[Act.put,List.setIfInBounds_toArray,List.set_cons_zero,List.set_cons_succ])
 iterate 2 (refine QW.take (by rfl) ?_;apply Exists.intro;refine⟨fun w' hw'=>?_,?_⟩;(·(have g0:=(hw'.cell (p:=⟨w.heap.size,0,none⟩) l1).trans c0;have g1:=(hw'.cell (p:=⟨w.heap.size,1,none⟩) l1).trans c1;have g2:=(hw'.cell (p:=⟨w.heap.size,2,none⟩) l1).trans c2;go_simp;first|done|(first|done|rfl)));try simp only[Act.put,List.setIfInBounds_toArray,List.set_cons_zero,List.set_cons_succ])
 refine QW.nil ?_;intro w3 x3;have X3:=qaa x3;have f1:IntKind.i64.wrap ((OU.length:Int)*(W:Int))=((OU.length*W:Nat):Int):=by rw[show(OU.length:Int)*(W:Int)=((OU.length*W:Nat):Int) by simp];exact qak _ (by omega)
 have f2:IntKind.i64.wrap (((OU.length*W:Nat):Int)+1)=((OU.length*W+1:Nat):Int):=by rw[show((OU.length*W:Nat):Int)+1=((OU.length*W+1:Nat):Int) by simp];exact qak _ (by omega)
 have f2':IntKind.i64.wrap ((OU.length:Int)*(W:Int)+1)=((OU.length*W+1:Nat):Int):=by rw[show(OU.length:Int)*(W:Int)+1=((OU.length*W+1:Nat):Int) by simp];exact qak _ (by omega)
 have hmk1:=qeu (OU.length*W+1) ((OU.length*W:Nat)+1:Int) (by simp) (by omega);have hmk2:=qeu (OU.length*W) ((OU.length*W:Nat):Int) rfl (by omega);clear x3 c0 c1 c2 HWD HDr;have HM3:=qaa (fun(wx:World) (bb sg fg:Nat) x h1 h2 h3 hne g1 g2 g3=>BkM.mk3 (w0:=w3) (V:=w3) (wx:=wx) (n:=OU.length) (W:=W) (bb:=bb) (sg:=sg) (fg:=fg) rfl (by unfold maxLen;omega) (Below.refl _ _) x h1 h2 h3 hne g1 g2 g3);have HKY:=qaa (qbc OU.length W NX);generalize hnw:OU.length*W=nW at *;have HNW:=qaa hnw;clear hnw;go_upto_region 2 with fail
 go_cut [5] (fun s5 wx=>∃bb sg fg:Nat,s5=.pointer (some ⟨bb,0,none⟩)∧Hid (BkM w3 OU.length W bb sg fg (List.replicate (nW+1) 0) (List.replicate nW 0) wx))
 case first=>
  go_region
  all_goals
   go_wp2;go_meet;exact⟨_,_,_,rfl,HM3.out _ _ _ _ (qa4 _ _ _ _ _ _ _).1 (by first|exact(qa4 _ _ _ _ _ _ _).2.1|exact(qa4 _ _ _ _ _ _ _).2.2.1|exact(qa4 _ _ _ _ _ _ _).2.2.2) (by first|exact(qa4 _ _ _ _ _ _ _).2.1|exact(qa4 _ _ _ _ _ _ _).2.2.1|exact(qa4 _ _ _ _ _ _ _).2.2.2) (by first|exact(qa4 _ _ _ _ _ _ _).2.1|exact(qa4 _ _ _ _ _ _ _).2.2.1|exact(qa4 _ _ _ _ _ _ _).2.2.2) (by omega) (by omega) (by omega) (by omega)⟩
 case rest=>
  obtain⟨bb,sg,fg,rfl,M0⟩:=hcut
  as_aux_lemma=>
   have KPT:Hid (∀V (S F:List Nat),BkM w3 OU.length W bb sg fg S F V→V.cell? ⟨w.heap.size,1,none⟩=some (.slice na NX.length nc)∧NAt V na NX):=fun V S F M=>by
    have x:=bt X3.out M.bel (Nat.le_refl _);have Bv:=(x.block _ l1).trans HB1.out;exact⟨by rw[cell_of_row _ _ _ _ _ _ Bv];rfl,HNX.out.below (bt HX2.out x (Nat.le_refl _))⟩
   obtain⟨e1,_⟩:=KPT.out _ _ _ M0.out;have C0:Hid (Cn1 (keys OU.length W NX) nW 0 (List.replicate (nW+1) 0)):=Cn1.zero _ _;go_wp2;go_loopg [33] (NX.length+1) (fun g x wr=>∃(t:Nat) (S:List Nat),x=.int .i64 (t:Nat)∧Hid (BkM w3 OU.length W bb sg fg S (List.replicate nW 0) wr)∧Hid (Cn1 (keys OU.length W NX) nW t S)∧t≤NX.length∧NX.length-t<g)
   case atStart=>exact⟨0,_,rfl,M0,C0,by omega,by omega⟩
   case round=>
    obtain⟨t,S,rfl,M,C,htl,hg⟩:=hrel;have HG:=qaa hg;clear hg M0 C0 e1;obtain⟨e1,kn⟩:=KPT.out _ _ _ M.out;by_cases ht:t<NX.length
    ·as_aux_lemma=>
      have ht':(t:Int)<(NX.length:Int):=by omega
      obtain⟨nb,off,rfl,_,cn⟩:=kn.get ht;rw[←qah ht] at cn;have htn:=HNL.out t ht;have hky:=qc7 OU.length W NX ht;have hkl:=qiy (n:=OU.length) hW0 HNL.out ht;rw[HNW.out] at hkl;have hm:=Nat.mod_lt t hW0;have CN:=qaa (C.out.next (by rw[qbc];exact ht) (by omega));rw[hky] at CN hkl;have hSl:t%W*OU.length+gN NX t<S.length:=by have:=C.out.1;omega
      have HSL:=fun V=>qet OU.length (gN NX t) (t%W) sg (nW+1) (nW+1) fg nW nW V (by omega)
      obtain⟨d0,d1,d2⟩:=M.out.cells;rw[HNW.out] at d1 d2;obtain⟨cs,cf⟩:=M.out.atS hSl;have hgs:gN S (t%W*OU.length+gN NX t)≤NX.length:=by
       have:=C.out.2 (t%W*OU.length+gN NX t) (by omega);rw[this];unfold cnt;have h8:=List.count_le_length (a:=t%W*OU.length+gN NX t) (l:=(keys OU.length W NX).take t);rw[List.length_take,qbc] at h8;omega
      have hNl:NX.length≤16777216:=by have:=HWL.out;have:=HNW.out;omega
      have hmod:(t:Int).tmod (W:Int)=((t%W:Nat):Int):=by rw[Int.tmod_eq_emod_of_nonneg (by omega)];rfl
      have hW0':¬(W:Int)=0:=by omega
      have lb:bb<wr.heap.size:=lt_of_block M.out.blk;have ls:sg<wr.heap.size:=(World.ownsRow.lt (show wr.ownsRow w3.heap.size 3 1 (.slice (some ⟨sg,0,none⟩) (OU.length*W+1) (OU.length*W+1)) S.length (qab S) from M.out.rws.own 0 (by simp)) sg rfl).2;generalize t%W=c at *;generalize gN NX t=tt at *;generalize c*OU.length+tt=key at *;generalize gN S key=v at *;have wv:IntKind.i64.wrap ((v:Int)+1)=((v+1:Nat):Int):=by rw[show(v:Int)+1=((v+1:Nat):Int) by simp];exact qak _ (by omega)
      have wc':IntKind.i64.wrap (c:Int)=(c:Int):=qak _ (by omega);have k1:(key:Int)<(nW:Int)+1:=by omega
      have HMM:=qaa (fun(w4:World) (x4:Below wr.drew.heap.size wr.drew w4)=>(M.out.below (show Below wr.heap.size wr w4 from(Below.refl _ wr).drew.trans x4)).setS key (v+1));have HC4:=qaa (fun(w4:World) (x4:Below wr.drew.heap.size wr.drew w4)=>(show(_∧_∧_)∧_∧_ from⟨⟨(x4.cell (p:=⟨bb,0,none⟩) lb).trans d0,(x4.cell (p:=⟨bb,1,none⟩) lb).trans d1,(x4.cell (p:=⟨bb,2,none⟩) lb).trans d2⟩,(x4.cell (p:=⟨sg,key,none⟩) ls).trans cs,(World.frozen?_of_block (a:=⟨sg,key,none⟩) (x4.block sg ls)).trans cf⟩));unfold bkV at HSL;have hW0'':¬W=0:=by omega
      have nbs:=M.out.ne.1;have nsb:¬sg=bb:=fun e=>nbs e.symm
      clear hky cs cf;go_upto_block 1 with fail
      go_cut [6,7] (fun _ _ wx=>Hid (BkM w3 OU.length W bb sg fg (S.set key (v+1)) (List.replicate nW 0) wx))
      case first=>
       as_aux_lemma=>
        go_wp2;go_region_with (go_at_call 138;refine(HSL _).mono ?_;rintro e w4 ⟨rfl,x4⟩;obtain⟨yS,y3,y4⟩:=HC4.out w4 x4;have MM:=qaa (HMM.out w4 x4);clear x4)
        all_goals
         go_wp2;go_meet;exact MM
      case rest=>
       have MM:=hcut;have CM:=qaa CN.out;go_wp2;go_roundg (NX.length-(t+1)+1)
       case measure=>have:=HG.out;omega
       case rel=>exact⟨t+1,_,by first|rfl|go_num|(congr 1;omega),MM,CM,by omega,by omega⟩
    ·as_aux_lemma=>
      have ht':¬(t:Int)<(NX.length:Int):=by omega
      obtain rfl:t=NX.length:=by omega
      have C2:Hid (Cn2 (keys OU.length W NX) nW 0 S):=Cn2.start (by rw[qbc];exact C.out);have hcz:cum (keys OU.length W NX) 0=0:=qkt _;obtain⟨d0,d1,d2⟩:=M.out.cells;rw[HNW.out] at d1 d2;have hNl:NX.length≤16777216:=by have:=HWL.out;have:=HNW.out;omega
      have HCL:Hid (∀j,cum (keys OU.length W NX) j≤NX.length):=fun j=>by have:=qix (keys OU.length W NX) j;rw[qbc] at this;exact this
      clear e1 kn;go_wp2;go_loopg [8,54] (nW+2) (fun g s8 x wr=>∃(j:Nat) (S:List Nat),x=.int .i64 (j:Nat)∧s8=.int .i64 ((cum (keys OU.length W NX) j:Nat):Int)∧Hid (BkM w3 OU.length W bb sg fg S (List.replicate nW 0) wr)∧Hid (Cn2 (keys OU.length W NX) nW j S)∧j≤nW+1∧nW+1-j<g)
      case atStart=>exact⟨0,S,rfl,by rw[hcz];rfl,M,C2,by omega,by omega⟩
      case round=>
       obtain⟨j,S,rfl,rfl,M,C,hjl,hg2⟩:=hrel;have HG2:=qaa hg2;clear hg2 C2 d0 d1 d2 hcz;by_cases hj:j<nW+1
       ·have hj':(j:Int)<(nW:Int)+1:=by omega
        obtain⟨hsum,CN⟩:=C.out.next (show j≤nW by omega);have hSl:j<S.length:=by have:=C.out.1;omega
        obtain⟨cs,cf⟩:=M.out.atS hSl;obtain⟨d0,d1,d2⟩:=M.out.cells;rw[HNW.out] at d1 d2;have hc1:=HCL.out (j+1);have MM:=qaa (M.out.setS j (cum (keys OU.length W NX) (j+1)));have HCN:=qaa CN;have HSU:=qaa hsum;clear hsum CN C;obtain⟨c1,hcc⟩:∃c1,c1=cum (keys OU.length W NX) (j+1):=⟨_,rfl⟩;rw[←hcc] at hc1 MM HCN HSU;have HCC:=qaa hcc;clear hcc;generalize cum (keys OU.length W NX) j=c0 at *;generalize gN S j=v at *;have wv:IntKind.i64.wrap ((c0:Int)+(v:Int))=(c1:Int):=by rw[show(c0:Int)+(v:Int)=(c1:Int) by have:=HSU.out;omega];exact qak _ (by omega)
        go_wp2;go_roundg (nW+1-(j+1)+1)
        case measure=>have:=HG2.out;omega
        case rel=>exact⟨j+1,_,by first|rfl|go_num|(congr 1;omega),by rw[←HCC.out],MM,HCN,by omega,by omega⟩
       ·as_aux_lemma=>
         have hj':¬(j:Int)<(nW:Int)+1:=by omega
         obtain rfl:j=nW+1:=by omega
         have C3:Hid (Cn3 (keys OU.length W NX) nW W 0 S (List.replicate nW 0)):=Cn3.start C.out (by rw[qbc,HWL.out];simp);obtain⟨e1,kn⟩:=KPT.out _ _ _ M.out;clear C;go_wp2;go_loopg [71] (NX.length+1) (fun g x wr=>∃(t:Nat) (S F:List Nat),x=.int .i64 (t:Nat)∧Hid (BkM w3 OU.length W bb sg fg S F wr)∧Hid (Cn3 (keys OU.length W NX) nW W t S F)∧t≤NX.length∧NX.length-t<g)
         case atStart=>exact⟨0,S,_,rfl,M,C3,by omega,by omega⟩
         case round=>
          obtain⟨t,S,F,rfl,M,C,htl,hg3⟩:=hrel;have HG3:=qaa hg3;clear hg3 C3 e1 kn;obtain⟨e1,kn⟩:=KPT.out _ _ _ M.out;by_cases ht:t<NX.length
          ·as_aux_lemma=>
            have ht':(t:Int)<(NX.length:Int):=by omega
            obtain⟨nb,off,rfl,_,cn⟩:=kn.get ht;rw[←qah ht] at cn;have htn:=HNL.out t ht;have hky:=qc7 OU.length W NX ht;have hkl:=qiy (n:=OU.length) hW0 HNL.out ht;rw[HNW.out] at hkl;have hm:=Nat.mod_lt t hW0;obtain⟨hpos,hpl,CN⟩:=C.out.next (by rw[qbc];exact ht) hkl;rw[hky] at CN hkl hpos;have hSl:t%W*OU.length+gN NX t<S.length:=by have:=C.out.sl;omega
            have HSL:=fun V=>qet OU.length (gN NX t) (t%W) sg (nW+1) (nW+1) fg nW nW V (by omega)
            obtain⟨d0,d1,d2⟩:=M.out.cells;rw[HNW.out] at d1 d2;have hFl:F.length=nW:=by rw[C.out.fl,qbc,HWL.out]
            have hmod:(t:Int).tmod (W:Int)=((t%W:Nat):Int):=by rw[Int.tmod_eq_emod_of_nonneg (by omega)];rfl
            have hdiv2:(t:Int).tdiv (W:Int)=((t/W:Nat):Int):=by rw[Int.tdiv_eq_ediv_of_nonneg (by omega)];rfl
            have htd:t/W≤t:=Nat.div_le_self _ _;have hW0':¬(W:Int)=0:=by omega
            have hW0'':¬W=0:=by omega
            have lb:bb<wr.heap.size:=lt_of_block M.out.blk;have nbs:=M.out.ne;have HCN:=qaa CN;generalize t%W=c at *;generalize t/W=d at *;generalize gN NX t=tt at *;generalize c*OU.length+tt=key at *;generalize pos (keys OU.length W NX) t=pp at *;have wc':IntKind.i64.wrap (c:Int)=(c:Int):=qak _ (by omega);have wd':IntKind.i64.wrap (d:Int)=(d:Int):=qak _ (by omega);have wp':IntKind.i64.wrap (((pp+1:Nat):Int)-1)=(pp:Int):=by rw[show((pp+1:Nat):Int)-1=(pp:Int) by omega];exact qak _ (by omega)
            have wp2:IntKind.i64.wrap ((pp:Int)+1-1)=(pp:Int):=by rw[show(pp:Int)+1-1=(pp:Int) by omega];exact qak _ (by omega)
            have HDr:Hid (Below wr.heap.size wr wr.drew):=(Below.refl _ _).drew;unfold bkV at HSL;clear hky CN C;go_wp2;refine wp_region_quiet (C:=fun w'=>Below wr.heap.size wr w') (by kernel_rfl) (by kernel_rfl) HDr.out ?_;refine QW.out (l:=_::_) ?_
            iterate 5 (refine QW.take (by rfl) ?_;apply Exists.intro;refine⟨fun w' hw'=>?_,?_⟩;(·(have g0:=(hw'.cell (p:=⟨bb,0,none⟩) lb).trans d0;have g1:=(hw'.cell (p:=⟨bb,1,none⟩) lb).trans d1;have g2:=(hw'.cell (p:=⟨bb,2,none⟩) lb).trans d2;go_simp;first|done|(first|done|rfl)));try simp only[Act.put,List.setIfInBounds_toArray,List.set_cons_zero,List.set_cons_succ])
            iterate 1 (refine QW.take (by rfl) ?_;apply Exists.intro;refine⟨fun w' hw'=>?_,?_⟩;(·(have g0:=(hw'.cell (p:=⟨bb,0,none⟩) lb).trans d0;have g1:=(hw'.cell (p:=⟨bb,1,none⟩) lb).trans d1;have g2:=(hw'.cell (p:=⟨bb,2,none⟩) lb).trans d2;go_simp;(refine(HSL _).mono ?_;rintro e w4 ⟨rfl,x4⟩;exact⟨rfl,hw'.trans (x4.mono hw'.size)⟩)));try simp only[Act.put,List.setIfInBounds_toArray,List.set_cons_zero,List.set_cons_succ])
            iterate 1 (refine QW.take (by rfl) ?_;apply Exists.intro;refine⟨fun w' hw'=>?_,?_⟩;(·(have g0:=(hw'.cell (p:=⟨bb,0,none⟩) lb).trans d0;have g1:=(hw'.cell (p:=⟨bb,1,none⟩) lb).trans d1;have g2:=(hw'.cell (p:=⟨bb,2,none⟩) lb).trans d2;go_simp;first|done|(first|done|rfl)));try simp only[Act.put,List.setIfInBounds_toArray,List.set_cons_zero,List.set_cons_succ])
            refine QW.nil ?_;intro w5 x5;have M5:=M.out.below x5;obtain⟨b0,b1,b2⟩:=M5.cells;rw[HNW.out] at b1 b2;obtain⟨cs,cf⟩:=M5.atS hSl;rw[hpos] at cs;have k1:(key:Int)<(nW:Int)+1:=by omega
            have M6:=M5.setS key pp;obtain⟨m0,m1,m2⟩:=M6.cells;rw[HNW.out] at m1 m2;obtain⟨cs6,_⟩:=M6.atS (i:=key) (by rw[List.length_set];exact hSl);rw[qbw S hSl,if_pos rfl] at cs6;obtain⟨cF,cf6⟩:=M6.atF (i:=pp) hpl;obtain⟨vF,cF⟩:∃v,(w5.setCell ⟨sg,key,none⟩ (.int .i64 (pp:Int))).cell? ⟨fg,pp,none⟩=some v:=⟨_,cF⟩;have k2:(pp:Int)<(nW:Int):=by omega
            have M7:=qaa ((M6.setF pp d).below (Below.refl _ _).drew);clear M5 M6 HDr d0 d1 d2 x5 e1 cn HSL;go_upto_region 20 with fail
            generalize w5.setCell ⟨sg,key,none⟩ (.int .i64 (pp:Int))=w6 at *;clear b0 b1 b2 cs cf;go_region;go_wp2;go_roundg (NX.length-(t+1)+1)
            case measure=>have:=HG3.out;omega
            case rel=>exact⟨t+1,_,_,by first|rfl|go_num|(congr 1;omega),M7,HCN,by omega,by omega⟩
          ·as_aux_lemma=>
            have ht':¬(t:Int)<(NX.length:Int):=by omega
            obtain rfl:t=NX.length:=by omega
            have HBS:=qaa (Cn3.done hW0 (by rw[HWL.out,HNW.out]) HNL.out (by rw[HNW.out];exact C.out));obtain⟨d0,d1,d2⟩:=M.out.cells;rw[HNW.out] at d1 d2;have x9:=bt X3.out M.out.bel (Nat.le_refl _);have B9:=(x9.block _ (lt_of_block HB2.out)).trans HB2.out;have HI:Hid ((Tryz.prog.info? 157).map (·.size)=some 3):=by unfold Hid;kernel_rfl
            have A1:Hid ((#[.int .i64 (OU.length:Int),.slice (some ⟨sg,0,none⟩) (nW+1) (nW+1),.slice (some ⟨fg,0,none⟩) nW nW]:Array Value).all (·.oneCell')=true):=by unfold Hid;simp[Value.oneCell']
            have HB9:=qaa B9;have B10:=setRow_heap wr (w.heap.size+1) _ #[.int .i64 (OU.length:Int),.slice (some ⟨sg,0,none⟩) (nW+1) (nW+1),.slice (some ⟨fg,0,none⟩) nW nW] 157 (0,0) B9;have k10:Kept (fun k=>k=w.heap.size+1) wr (wr.setRow (w.heap.size+1) #[.int .i64 (OU.length:Int),.slice (some ⟨sg,0,none⟩) (nW+1) (nW+1),.slice (some ⟨fg,0,none⟩) nW nW]):=qas;have hs2:=HS2.out;have hs3:=X3.out.size;have HR10:Hid (Rws (wr.setRow (w.heap.size+1) #[.int .i64 (OU.length:Int),.slice (some ⟨sg,0,none⟩) (nW+1) (nW+1),.slice (some ⟨fg,0,none⟩) nW nW]) w.heap.size [(.slice (some ⟨sg,0,none⟩) (nW+1) (nW+1),S),(.slice (some ⟨fg,0,none⟩) nW nW,F)]):=by
             have r:=M.out.rws.kept k10 (fun j hj b hb e=>by
              have:=(World.ownsRow.lt (show wr.ownsRow w3.heap.size 3 1 _ _ (qab _) from M.out.rws.own j hj) b hb).1;omega)
             rw[HNW.out] at r;exact⟨fun j hj=>(r.own j hj).mono' (by omega),r.ap⟩
            have HX10:Hid (Below w.heap.size w (wr.setRow (w.heap.size+1) #[.int .i64 (OU.length:Int),.slice (some ⟨sg,0,none⟩) (nW+1) (nW+1),.slice (some ⟨fg,0,none⟩) nW nW])):=(bt HX2.out x9 (Nat.le_refl _)).trans (k10.below (by have:=x9.size;omega) (fun b hb=>by omega));have HB10:=qaa B10;clear B9 B10 k10 x9 e1 kn;go_wp2_with (refine wpList_store_row rfl 157 (.tmp 2) (.tmp 101) rfl (w.heap.size+1) #[.int .i64 (OU.length:Int),.slice (some ⟨sg,0,none⟩) (nW+1) (nW+1),.slice (some ⟨fg,0,none⟩) nW nW] rfl rfl 157 #[.int .i64 0,.slice none 0 0,.slice none 0 0] HB9.out HI.out rfl A1.out ?_);have z0:(wr.setRow (w.heap.size+1) #[.int .i64 (OU.length:Int),.slice (some ⟨sg,0,none⟩) (nW+1) (nW+1),.slice (some ⟨fg,0,none⟩) nW nW]).cell? ⟨w.heap.size+1,0,none⟩=some (.int .i64 (OU.length:Int)):=by rw[cell_of_row _ _ _ _ _ _ HB10.out];rfl
            have z1:(wr.setRow (w.heap.size+1) #[.int .i64 (OU.length:Int),.slice (some ⟨sg,0,none⟩) (nW+1) (nW+1),.slice (some ⟨fg,0,none⟩) nW nW]).cell? ⟨w.heap.size+1,1,none⟩=some (.slice (some ⟨sg,0,none⟩) (nW+1) (nW+1)):=by rw[cell_of_row _ _ _ _ _ _ HB10.out];rfl
            have z2:(wr.setRow (w.heap.size+1) #[.int .i64 (OU.length:Int),.slice (some ⟨sg,0,none⟩) (nW+1) (nW+1),.slice (some ⟨fg,0,none⟩) nW nW]).cell? ⟨w.heap.size+1,2,none⟩=some (.slice (some ⟨fg,0,none⟩) nW nW):=by rw[cell_of_row _ _ _ _ _ _ HB10.out];rfl
            refine bodyPost_ret (by simp[results,Tryz.results114,go_sem,z0,z1,z2];try rfl) rfl ?_;have e9:=HNW.out;subst e9;exact⟨⟨sg,fg,rfl,S,F,HBS.out,HR10.out⟩,HX10.out⟩
end Go.Proofs.YtdgoilkgplnhfaaGreat

