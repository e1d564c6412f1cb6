/-
  What stands while an automaton's states are met. Condition: the automaton may be.
-/
import Derived.Test.YtdgoilkgplnhfaaGreatJ06
namespace Go.Proofs.YtdgoilkgplnhfaaGreat
open Go.RowKit Go.Lib Go.Maps
def dfA (bs:By) (NX OU:List Nat):DF:=⟨OU.length,NX.length/OU.length,fun b=>(bs.getD b 0).toNat,fun s c=>gN NX (s*(NX.length/OU.length)+c),fun s=>((gN OU s:Nat):Int)⟩
structure qbv (bs:By) (NX OU:List Nat):Prop where
 bl:bs.length=256
 n0:0<OU.length
 n1:OU.length≤65536
 wl:NX.length=OU.length*(NX.length/OU.length)
 bw:∀b,b<256→(bs.getD b 0).toNat<NX.length/OU.length
 w1:NX.length/OU.length≤256
 nl:∀x∈NX,x<OU.length
 lb:∀x∈OU,x≤65535
section
variable {bs:By} {NX OU:List Nat}
theorem qbv.at (h:qbv bs NX OU) {s c:Nat} (hs:s<OU.length) (hc:c<NX.length/OU.length):s*(NX.length/OU.length)+c<NX.length:=by
 have:=qcd hs hc;rw[←h.wl] at this;exact this
theorem qbv.ok (h:qbv bs NX OU):(dfA bs NX OU).Ok:=
 ⟨h.n0,Nat.lt_of_le_of_lt (Nat.zero_le _) (h.bw 0 (by decide)),h.bw,fun s hs c hc=>by
   have hq:=h.at hs hc;show gN NX _<OU.length;rw[qah hq];exact h.nl _ (List.getElem_mem hq)⟩
theorem qbv.nxl (h:qbv bs NX OU):NX.length≤16777216:=by
 have h1:=Nat.mul_le_mul h.n1 h.w1;rw[←h.wl] at h1;omega
end
structure RcM (bs:By) (NX OU:List Nat) (base:Nat) (w0:World) (cv fv nv mv:Value) (col fst:List Nat) (sv xv ov:Value) (St X O:List Nat) (i j:Nat) (w:World):Prop where
 ex:∃(Nm:List Nat) (Mt:List Bool),Rws w base [(cv,col),(fv,fst),(nv,Nm),(sv,St),(xv,X),(ov,O)]∧qfj w base mv Mt∧(Nm.length=OU.length∧Mt.length=OU.length∧(∀a,a<St.length→gN Nm (gN St a)=a)∧∀x,x<OU.length→(Mt.getD x false=true↔∃a,a<St.length∧gN St a=x))
 rc:RcS (dfA bs NX OU) fst St X i j
 out:O=(St.take i).map (gN OU)
 bel:Below base w0 w
 fl:fst.length≤256
section
variable {bs:By} {NX OU:List Nat} {base:Nat} {w0 w w':World} {cv fv nv mv sv xv ov:Value} {col fst St X O:List Nat} {i j:Nat}
theorem RcM.below (h:RcM bs NX OU base w0 cv fv nv mv col fst sv xv ov St X O i j w) (hb:base≤w0.heap.size) (x:Below w.heap.size w w'):RcM bs NX OU base w0 cv fv nv mv col fst sv xv ov St X O i j w':=by
 obtain⟨Nm,Mt,h1,h2,h3⟩:=h.ex;exact⟨⟨Nm,Mt,h1.below x,own_below h2 x,h3⟩,h.rc,h.out,h.bel.trans (x.mono (Nat.le_trans hb h.bel.size)),h.fl⟩
theorem RcM.bound (h:RcM bs NX OU base w0 cv fv nv mv col fst sv xv ov St X O i j w) (hi:i<St.length∨j=0):St.length≤OU.length∧X.length≤OU.length*256:=by
 have h1:St.length≤OU.length:=qax OU.length St.length (gN St) h.rc.lt h.rc.nd;refine⟨h1,?_⟩;have h2:=h.rc.len;have h3:=h.rc.il;have h4:=h.rc.jl;have h5:=h.fl;rcases hi with hi|hi
 ·have:(i+1)*fst.length≤OU.length*256:=Nat.mul_le_mul (by omega) h5
  rw[Nat.succ_mul] at this;omega
 ·have:i*fst.length≤OU.length*256:=Nat.mul_le_mul (by omega) h5
  omega
structure RcP (bs:By) (NX OU:List Nat) (base:Nat) (w0:World) (cv fv nv mv:Value) (col fst:List Nat) (sv xv ov:Value) (St X O:List Nat) (i j x v:Nat) (w:World):Prop where
 ex:∃(Nm:List Nat) (Mt:List Bool),Rws w base [(cv,col),(fv,fst),(nv,Nm),(sv,St),(xv,X),(ov,O)]∧qfj w base mv Mt∧(Nm.length=OU.length∧Mt.length=OU.length∧(∀a,a<St.length→gN Nm (gN St a)=a)∧∀x,x<OU.length→(Mt.getD x false=true↔∃a,a<St.length∧gN St a=x))∧gN Nm x=v
 rc:RcS (dfA bs NX OU) fst St (X++[v]) i (j+1)
 out:O=(St.take i).map (gN OU)
 bel:Below base w0 w
 fl:fst.length≤256
 xl:x<OU.length
theorem RcP.below {x v:Nat} (h:RcP bs NX OU base w0 cv fv nv mv col fst sv xv ov St X O i j x v w) (hb:base≤w0.heap.size) (y:Below w.heap.size w w'):RcP bs NX OU base w0 cv fv nv mv col fst sv xv ov St X O i j x v w':=by
 obtain⟨Nm,Mt,h1,h2,h3⟩:=h.ex;exact⟨⟨Nm,Mt,h1.below y,own_below h2 y,h3⟩,h.rc,h.out,h.bel.trans (y.mono (Nat.le_trans hb h.bel.size)),h.fl,h.xl⟩
theorem RcP.app {x v:Nat} (h:RcP bs NX OU base w0 cv fv nv mv col fst sv xv ov St X O i j x v w) (hb:base≤w0.heap.size) {w5:World} (x5:Below w.heap.size w w5) {xv':Value} (h1:w'.ownsRow base 3 1 xv' (X.length+1) (qab X++[.int .i64 (v:Int)])) (h2:qbb w5 w' xv xv'):
 RcM bs NX OU base w0 cv fv nv mv col fst sv xv' ov St (X++[v]) O i (j+1) w':=by
 have h5:=h.below hb x5;obtain⟨Nm,Mt,r1,r2,r3,_⟩:=h5.ex;have r1':=r1.app (i:=4) (by simp) (L:=X) h1 h2;obtain⟨F,k6,hF⟩:∃F:Nat→Prop,Kept F w5 w'∧(∀b,F b→xv.ownBlock=some b):=by
  rcases h2 with⟨q,a,b,c⟩|⟨a,b⟩
  ·exact⟨fun b=>some q=some b,qae c,fun b hb=>a.trans hb⟩
  ·exact⟨fun _=>False,Kept.of_below (qad a),fun b hb=>hb.elim⟩
 have ox:w5.ownsRow base 3 1 xv X.length (qab X):=r1.own 4 (by simp);refine⟨⟨Nm,Mt,r1',qai r2 k6 (fun b hb hf=>qa5 r2 ox (by decide) b hb (hF b hf)),r3⟩,h.rc,h.out,h5.bel.trans (k6.below (Nat.le_trans hb h5.bel.size) (fun b hf=>(World.ownsRow.lt ox b (hF b hf)).1)),h.fl⟩
theorem RcM.met (h:RcM bs NX OU base w0 cv fv nv mv col fst sv xv ov St X O i j w) (hj:j<fst.length) {x:Nat} (hx:x<OU.length) (he:x=(dfA bs NX OU).step (gN St i) (gN fst j)) (hm:∃a,a<St.length∧gN St a=x):∃v,v<St.length∧RcP bs NX OU base w0 cv fv nv mv col fst sv xv ov St X O i j x v w:=by
 obtain⟨Nm,Mt',r1,r2,r3⟩:=h.ex;obtain⟨a,ha,e⟩:=hm;refine⟨a,ha,⟨Nm,Mt',r1,r2,r3,?_⟩,h.rc.old hj ha (by rw[e];exact he),h.out,h.bel,h.fl,hx⟩;rw[←e];exact r3.2.2.1 a ha
theorem RcM.new {gm gn nm nn:Nat} (h:RcM bs NX OU base w0 cv fv (.slice (some ⟨gn,0,none⟩) nn nn) (.slice (some ⟨gm,0,none⟩) nm nm) col fst sv xv ov St X O i j w) (hb:base≤w0.heap.size) (hi:i<St.length) (hj:j<fst.length) {x:Nat} (hx:x<OU.length) (he:x=(dfA bs NX OU).step (gN St i) (gN fst j)) (hm:¬ ∃a,a<St.length∧gN St a=x):
 ∃(wB:World),wB=(w.setCell ⟨gm,x,none⟩ (.bool true)).setCell ⟨gn,x,none⟩ (.int .i64 (St.length:Int))∧(∃u,w.cell? ⟨gm,x,none⟩=some u)∧w.frozen? ⟨gm,x,none⟩=false∧(∃u,(w.setCell ⟨gm,x,none⟩ (.bool true)).cell? ⟨gn,x,none⟩=some u)∧(w.setCell ⟨gm,x,none⟩ (.bool true)).frozen? ⟨gn,x,none⟩=false∧
 wB.ownsRow base 3 1 sv St.length (qab St)∧Below base w0 wB∧
 ∀(w5 w6:World) (sv':Value),Below wB.heap.size wB w5→w6.ownsRow base 3 1 sv' (St.length+1) (qab St++[.int .i64 (x:Int)])→qbb w5 w6 sv sv'→RcP bs NX OU base w0 cv fv (.slice (some ⟨gn,0,none⟩) nn nn) (.slice (some ⟨gm,0,none⟩) nm nm) col fst sv' xv ov (St++[x]) X O i j x St.length w6:=by
 obtain⟨Nm,Mt,r1,r2,r3,r4,r5,r6⟩:=h.ex;obtain⟨m1,m2⟩:=r2.cell (i:=x) (by omega);obtain⟨o1,k1⟩:=r2.store x true;have hne:∀q (hq:q<6),∀b,(([(cv,col),(fv,fst),(.slice (some ⟨gn,0,none⟩) nn nn,Nm),(sv,St),(xv,X),(ov,O)]:List RN)[q]'hq).1.ownBlock=some b→¬b=gm:=fun q hq b hb' e=>by
  have oo:w.ownsRow base 3 1 _ _ (qab _):=r1.own q hq;exact qa5 oo r2 (by decide) b hb' (by rw[e];rfl)
 have r1b:=r1.kept k1 (fun q hq b hb'=>hne q hq b hb');have on:qan (w.setCell ⟨gm,x,none⟩ (.bool true)) base (.slice (some ⟨gn,0,none⟩) nn nn) Nm:=r1b.own 2 (by simp);obtain⟨n1,n2⟩:=on.slot (i:=x) (by omega);have r1c:=r1b.store (i:=2) (by simp) (g:=gn) (n:=nn) (cap:=nn) (L:=Nm) rfl x St.length;have k2:Kept (fun k=>k=gn) (w.setCell ⟨gm,x,none⟩ (.bool true)) ((w.setCell ⟨gm,x,none⟩ (.bool true)).setCell ⟨gn,x,none⟩ (.int .i64 (St.length:Int))):=Kept.setCell (F:=fun k=>k=gn) (Kept.refl _ _) rfl _;have o2:qfj ((w.setCell ⟨gm,x,none⟩ (.bool true)).setCell ⟨gn,x,none⟩ (.int .i64 (St.length:Int))) base (.slice (some ⟨gm,0,none⟩) nm nm) (Mt.set x true):=qai o1 k2 (fun b hb' e=>qa5 o1 on (by decide) b hb' (by rw[e];rfl));have hgm:=(World.ownsRow.lt (show w.ownsRow base 4 1 (.slice (some ⟨gm,0,none⟩) nm nm) _ _ from r2) gm rfl).1;have hgn:=(World.ownsRow.lt (show(w.setCell ⟨gm,x,none⟩ (.bool true)).ownsRow base 3 1 (.slice (some ⟨gn,0,none⟩) nn nn) _ (qab _) from on) gn rfl).1;have b2:Below base w0 ((w.setCell ⟨gm,x,none⟩ (.bool true)).setCell ⟨gn,x,none⟩ (.int .i64 (St.length:Int))):=(h.bel.setCell hgm _).setCell hgn _;refine⟨_,rfl,⟨_,m1⟩,m2,⟨_,n1⟩,n2,r1c.own 3 (by simp),b2,fun w5 w6 sv' x5 g1 g2=>?_⟩;have r1d:=r1c.below x5;have r1e:=r1d.app (i:=3) (by simp) (L:=St) g1 g2;obtain⟨F,k6,hF⟩:∃F:Nat→Prop,Kept F w5 w6∧(∀b,F b→sv.ownBlock=some b):=by
  rcases g2 with⟨q,a,b,c⟩|⟨a,b⟩
  ·exact⟨fun b=>some q=some b,qae c,fun b hb=>a.trans hb⟩
  ·exact⟨fun _=>False,Kept.of_below (qad a),fun b hb=>hb.elim⟩
 have os:w5.ownsRow base 3 1 sv St.length (qab St):=r1d.own 3 (by simp);have o5:=own_below o2 x5;have hxn:∀a,a<St.length→gN St a≠x:=fun a ha e=>hm ⟨a,ha,e⟩
 have gl:∀a,a<St.length→gN (St++[x]) a=gN St a:=fun a ha=>qau ha
 have hls:(St++[x]).length=St.length+1:=by simp
 have gs:∀y,gN (Nm.set x St.length) y=if y=x then St.length else gN Nm y:=fun y=>by
  unfold gN;rw[List.getD_eq_getElem?_getD,List.getD_eq_getElem?_getD,List.getElem?_set];by_cases hy:x=y
  ·subst hy;simp[show x<Nm.length by omega]
  ·rw[if_neg hy,if_neg (fun e=>hy e.symm)]
 have b5:=b2.trans (x5.mono (Nat.le_trans hb b2.size));refine⟨⟨Nm.set x St.length,Mt.set x true,r1e,qai o5 k6 (fun b hb' hf=>qa5 o5 os (by decide) b hb' (hF b hf)),⟨by rw[List.length_set];exact r3,by rw[List.length_set];exact r4,fun a ha=>?_,fun y hy=>?_⟩,by rw[gs x,if_pos rfl]⟩,h.rc.new hi hj hx hxn he,?_,b5.trans (k6.below (Nat.le_trans hb b5.size) (fun b hf=>(World.ownsRow.lt os b (hF b hf)).1)),h.fl,hx⟩
 ·by_cases h2:a<St.length
  ·rw[gl a h2,gs,if_neg (hxn a h2)];exact r5 a h2
  ·obtain rfl:a=St.length:=by omega
   rw[qat,gs,if_pos rfl]
 ·by_cases hyx:y=x
  ·subst hyx
   refine⟨fun _=>⟨St.length,by omega,qat _ _⟩,fun _=>?_⟩;rw[List.getD_eq_getElem?_getD,List.getElem?_set];simp[show y<Mt.length by omega]
  ·rw[show(Mt.set x true).getD y false=Mt.getD y false by rw[List.getD_eq_getElem?_getD,List.getD_eq_getElem?_getD,List.getElem?_set,if_neg (fun e=>hyx e.symm)],r6 y hy]
   refine⟨fun⟨a,ha,e⟩=>⟨a,by omega,by rw[gl a ha];exact e⟩,fun⟨a,ha,e⟩=>?_⟩;by_cases h2:a<St.length
   ·exact⟨a,h2,by rw[gl a h2] at e;exact e⟩
   ·obtain rfl:a=St.length:=by omega
    rw[qat] at e;exact absurd e.symm hyx
 ·rw[h.out,List.take_append_of_le_length (by omega)]
theorem RcM.row (h:RcM bs NX OU base w0 cv fv nv mv col fst sv xv ov St X O i fst.length w) (hb:base≤w0.heap.size) (hi:i<St.length) {w5:World} (x5:Below w.heap.size w w5) {ov':Value} (h1:w'.ownsRow base 3 1 ov' (O.length+1) (qab O++[.int .i64 ((gN OU (gN St i):Nat):Int)])) (h2:w5.grownBy w' ov.ownBlock) (h3:∀b,ov'.ownBlock=some b→ov.ownBlock=some b∨w5.heap.size≤b):
 RcM bs NX OU base w0 cv fv nv mv col fst sv xv ov' St X (O++[gN OU (gN St i)]) (i+1) 0 w':=by
 have h5:=h.below hb x5;obtain⟨Nm,Mt,r1,r2,r3⟩:=h5.ex;have k6:=qae h2;have oo:w5.ownsRow base 3 1 ov O.length (qab O):=r1.own 5 (by simp);have r1':=r1.upd (i:=5) (by simp) (v':=ov') (L':=O++[gN OU (gN St i)]) (by unfold qan;rw[qa1,List.length_append,List.length_singleton];exact h1) k6 (fun b hb'=>hb') h3;refine⟨⟨Nm,Mt,r1',qai r2 k6 (fun b hb' hf=>qa5 r2 oo (by decide) b hb' hf),r3⟩,h.rc.row hi,?_,h5.bel.trans (k6.below (Nat.le_trans hb h5.bel.size) (fun b hf=>(World.ownsRow.lt oo b hf).1)),h.fl⟩;rw[h.out,List.take_succ_eq_append_getElem hi,List.map_append,qah hi];rfl
theorem RcM.start {gm gn:Nat} {Nm:List Nat} {Mt:List Bool} (hr:Rws w base [(cv,col),(fv,fst),(.slice (some ⟨gn,0,none⟩) OU.length OU.length,Nm),(sv,[0]),(xv,[]),(ov,[])]) (hmt:qfj w base (.slice (some ⟨gm,0,none⟩) OU.length OU.length) Mt) (h0:0<OU.length) (hN:Nm=List.replicate OU.length 0) (hM:Mt=(List.replicate OU.length false).set 0 true) (hbel:Below base w0 w) (hfl:fst.length≤256):
 RcM bs NX OU base w0 cv fv (.slice (some ⟨gn,0,none⟩) OU.length OU.length) (.slice (some ⟨gm,0,none⟩) OU.length OU.length) col fst sv xv ov [0] [] [] 0 0 w:=by
 refine⟨⟨Nm,Mt,hr,hmt,by rw[hN];simp,by rw[hM];simp,fun a ha=>?_,fun x hx=>?_⟩,RcS.start h0,rfl,hbel,hfl⟩
 ·have:a=0:=by simp at ha;omega
  subst this;rw[hN];simp[gN,List.getD_eq_getElem?_getD,h0]
 ·rw[hM,List.getD_eq_getElem?_getD,List.getElem?_set]
  by_cases hx0:0=x
  ·subst hx0
   rw[if_pos rfl];simp[h0];exact rfl
  ·rw[if_neg hx0]
   simp[hx];intro e;exact hx0 e
end
theorem st3 {W:World} {g:Nat} {a b c:Value} {T:TypeId} (B:W.heap[g]? =some (.cells #[a,b,c] T (0,0))) (x y z:Value):
 W.cell? ⟨g,0,none⟩=some a∧W.frozen? ⟨g,0,none⟩=false∧(W.setCell ⟨g,0,none⟩ x).cell? ⟨g,1,none⟩=some b∧(W.setCell ⟨g,0,none⟩ x).frozen? ⟨g,1,none⟩=false∧((W.setCell ⟨g,0,none⟩ x).setCell ⟨g,1,none⟩ y).cell? ⟨g,2,none⟩=some c∧((W.setCell ⟨g,0,none⟩ x).setCell ⟨g,1,none⟩ y).frozen? ⟨g,2,none⟩=false∧
 (((W.setCell ⟨g,0,none⟩ x).setCell ⟨g,1,none⟩ y).setCell ⟨g,2,none⟩ z).heap[g]? =some (.cells #[x,y,z] T (0,0))∧Kept (fun i=>i=g) W (((W.setCell ⟨g,0,none⟩ x).setCell ⟨g,1,none⟩ y).setCell ⟨g,2,none⟩ z):=by
 have B1:(W.setCell ⟨g,0,none⟩ x).heap[g]? =some (.cells #[x,b,c] T (0,0)):=block_setCell B 0 x;have B2:((W.setCell ⟨g,0,none⟩ x).setCell ⟨g,1,none⟩ y).heap[g]? =some (.cells #[x,y,c] T (0,0)):=block_setCell B1 1 y;have B3:(((W.setCell ⟨g,0,none⟩ x).setCell ⟨g,1,none⟩ y).setCell ⟨g,2,none⟩ z).heap[g]? =some (.cells #[x,y,z] T (0,0)):=block_setCell B2 2 z;refine⟨by rw[cell_of_row _ _ _ _ _ _ B];rfl,frozen_of_row _ _ 0 _ _ B,by rw[cell_of_row _ _ _ _ _ _ B1];rfl,frozen_of_row _ _ 1 _ _ B1,by rw[cell_of_row _ _ _ _ _ _ B2];rfl,frozen_of_row _ _ 2 _ _ B2,B3,?_⟩;exact Kept.setCell (F:=fun i=>i=g) (Kept.setCell (F:=fun i=>i=g) (Kept.setCell (F:=fun i=>i=g) (Kept.refl _ _) rfl _) rfl _) rfl _
end Go.Proofs.YtdgoilkgplnhfaaGreat

