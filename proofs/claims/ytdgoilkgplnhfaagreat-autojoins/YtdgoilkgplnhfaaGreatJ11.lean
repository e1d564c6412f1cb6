/-
  The code's mark by its contract. Condition: at most 65536 states.
-/
import Derived.BigRegion
import Derived.Deep.DeepCutAuto
import Derived.Deep.LoopGhost
import Derived.Test.YtdgoilkgplnhfaaGreatJ05
import Derived.Test.YtdgoilkgplnhfaaGreatJ09
import Derived.Test.YtdgoilkgplnhfaaGreatJ10
namespace Go.Proofs.YtdgoilkgplnhfaaGreat
open Go.RowKit Go.Lib
theorem frozen_kept {F:Nat→Prop} {w w':World} (h:Kept F w w') {b i:Nat} (hl:b<w.heap.size) (hf:¬F b):w'.frozen? ⟨b,i,none⟩=w.frozen? ⟨b,i,none⟩:=by
 unfold World.frozen?;rw[h.block b hl hf]
theorem below_draws (A:World) (N:Nat):Below A.heap.size A (A.drew.drew.drewN N):=⟨rfl,rfl,rfl,Nat.le_refl _,fun _ _=>rfl⟩
theorem qk0 {w2 w3 w4:World} {lg pg rg rm q o s k3:Nat} (e3:w3=((w2.setCell ⟨lg,rm,none⟩ (.int .i64 (s:Int))).setCell ⟨lg,q,none⟩ (.int .i64 (o:Int))).drew) (e4:w4=((w3.setCell ⟨pg,o,none⟩ (.int .i64 (q:Int))).setCell ⟨pg,s,none⟩ (.int .i64 (rm:Int))).drew) (N:Nat):
 ∃A,A=((((w2.setCell ⟨lg,rm,none⟩ (.int .i64 (s:Int))).setCell ⟨lg,q,none⟩ (.int .i64 (o:Int))).setCell ⟨pg,o,none⟩ (.int .i64 (q:Int))).setCell ⟨pg,s,none⟩ (.int .i64 (rm:Int))).setCell ⟨rg,k3,none⟩ (.int .i64 ((rm+1:Nat):Int))∧Below A.heap.size A ((w4.setCell ⟨rg,k3,none⟩ (.int .i64 ((rm:Int)+1))).drewN N):=by
 rw[e4,e3];simp only[World.setCell_drew];rw[show(rm:Int)+1=((rm+1:Nat):Int) by simp];exact⟨_,rfl,below_draws _ N⟩
set_option maxRecDepth 100000 in
set_option maxHeartbeats 4000000 in
theorem qk1 {n:Nat} {M:Nat→Prop} (w:World) (base pb:Nat) (lv pv ov rv:Value) (L P O:List Nat) (R:List Rm) (s:Nat) (h:PrM w base pb lv pv ov rv L P O R) (hp:PtS n L P O R) (hM:MkS n P O R M) (hs:s<n) (hns:¬M s) (hn:n≤65536):
 Calls Tryz.prog 140 #[.pointer (some ⟨pb,0,none⟩),.int .i64 (s:Nat)] w fun e w'=>
  (∃b:Bool,e=.returned (.bool b)∧(b=true↔(gR R (gN O s)).m=(gR R (gN O s)).a))∧∃L' P',PrM w' base pb lv pv ov rv L' P' O (R.set (gN O s) ⟨(gR R (gN O s)).a,(gR R (gN O s)).m+1,(gR R (gN O s)).e⟩)∧PtS n L' P' O (R.set (gN O s) ⟨(gR R (gN O s)).a,(gR R (gN O s)).m+1,(gR R (gN O s)).e⟩)∧MkS n P' O (R.set (gN O s) ⟨(gR R (gN O s)).a,(gR R (gN O s)).m+1,(gR R (gN O s)).e⟩) (fun t=>M t∨t=s)∧Kept (inP lv pv ov rv) w w':=by
 obtain⟨h1,h2,h3,h4,h5,h6,h7⟩:=hp.at hM hs hns;obtain⟨p1,p2⟩:=hp.mark hM hs hns rfl rfl;have HP1:=qaa p1;have HP2:=qaa p2;clear p1 p2;obtain⟨q0,q1,q2,q3⟩:=h.cells;obtain⟨la,lc,hlv⟩:=qan.shape (h.rws.own 0 (by simp));obtain⟨pa,pc,hpv⟩:=qan.shape (h.rws.own 1 (by simp));obtain⟨oa,oc,hov⟩:=qan.shape (h.rws.own 2 (by simp));simp only[List.getElem_cons_succ,List.getElem_cons_zero] at hlv hpv hov;subst hlv hpv hov;obtain⟨rg,rc,rfl⟩:=h.own.at (by omega);obtain⟨og,rfl,co⟩:=qan.gcell (h.rws.own 2 (by simp)) (by show s<O.length;rw[hp.ol];exact hs);obtain⟨pg,rfl,cp⟩:=qan.gcell (h.rws.own 1 (by simp)) (by show s<P.length;rw[hp.pl];exact hs);obtain⟨lg,rfl,cl⟩:=qan.gcell (h.rws.own 0 (by simp)) (by show(gR R (gN O s)).m<L.length;rw[hp.ll];exact h4);have cm:=h.own.cell h1 (show 1<3 by decide);have ca:=h.own.cell h1 (show 0<3 by decide);have hll:=hp.ll;have hpl:=hp.pl;have hol:=hp.ol;have hrl:=hp.many;generalize gN O s=k at *;generalize gN P s=q at *;generalize hgr:gR R k=r at *;have HGR:Hid (gR R k=r):=hgr;clear hgr;obtain⟨ra,rm,re⟩:=r;simp only[rmC,List.getElem?_cons_succ,List.getElem?_cons_zero] at cm ca;simp only at h3 h4 h5 h6 h7 cl HP1 HP2 ⊢;generalize gN L rm=o at *;have a1:(s:Int)<(O.length:Int):=by omega
 have a2:(s:Int)<(P.length:Int):=by omega
 have a3:(k:Int)<(R.length:Int):=by omega
 have a4:(rm:Int)<(L.length:Int):=by omega
 have a5:(q:Int)<(L.length:Int):=by omega
 have a6:(o:Int)<(P.length:Int):=by omega
 clear hll hpl hol;go_enter Tryz.func140,Tryz.ntmps140;go_wp2;go_quiet (fail);obtain⟨w1,hw1⟩:∃w1,w1=w.drewN nq:=⟨_,rfl⟩;rw[←hw1];go_wp2;go_quiet (fail);obtain⟨w2,hw2⟩:∃w2,w2=w1.drewN nq:=⟨_,rfl⟩;rw[←hw2];have Y:Hid (Below w.heap.size w w2):=by rw[hw2,hw1];exact⟨rfl,rfl,rfl,Nat.le_refl _,fun _ _=>rfl⟩
 clear hw1 hw2;have h2:=h.below Y.out;have HYK:Hid (Kept (inP (.slice (some ⟨lg,0,none⟩) L.length lc) (.slice (some ⟨pg,0,none⟩) P.length pc) (.slice (some ⟨og,0,none⟩) O.length oc) (.slice (some ⟨rg,0,none⟩) R.length rc)) w w2):=Kept.of_below Y.out;have h2lt:∀b,inP (.slice (some ⟨lg,0,none⟩) L.length lc) (.slice (some ⟨pg,0,none⟩) P.length pc) (.slice (some ⟨og,0,none⟩) O.length oc) (.slice (some ⟨rg,0,none⟩) R.length rc) b→¬b=pb:=h2.notpb;have nlp:¬pb=lg:=fun e=>h2lt lg (.inl rfl) e.symm
 have npp:¬pb=pg:=fun e=>h2lt pg (.inr (.inl rfl)) e.symm
 have oL:w2.ownsRow base 3 1 (.slice (some ⟨lg,0,none⟩) L.length lc) L.length (qab L):=h2.rws.own 0 (by simp);have oP:w2.ownsRow base 3 1 (.slice (some ⟨pg,0,none⟩) P.length pc) P.length (qab P):=h2.rws.own 1 (by simp);have oR:w2.ownsRow base 164 3 (.slice (some ⟨rg,0,none⟩) R.length rc) R.length (qao R):=h2.own;have nlr:¬rg=lg:=fun e=>qa5 oR oL (by decide) rg rfl (by rw[e];rfl)
 have npr:¬rg=pg:=fun e=>qa5 oR oP (by decide) rg rfl (by rw[e];rfl)
 have nlg:¬pg=lg:=fun e=>h2.rws.ap 1 (by simp) 0 (by simp) (by decide) pg rfl (by rw[e];rfl)
 have HMK:=qaa (h2.mark rm s q o k h1);rw[HGR.out] at HMK;simp only at HMK;have b0:=(Y.out.cell (p:=⟨pb,0,none⟩) (lt_of_block h.blk)).trans q0;have b1:=(Y.out.cell (p:=⟨pb,1,none⟩) (lt_of_block h.blk)).trans q1;obtain⟨x1,x2⟩:=qan.slot (h2.rws.own 0 (by simp)) (i:=rm) (by show rm<L.length;omega);obtain⟨x3,x4⟩:=qan.slot (h2.rws.own 0 (by simp)) (i:=q) (by show q<L.length;omega);obtain⟨x5,x6⟩:=qan.slot (h2.rws.own 1 (by simp)) (i:=o) (by show o<P.length;omega);obtain⟨x7,x8⟩:=qan.slot (h2.rws.own 1 (by simp)) (i:=s) (by show s<P.length;omega);have cp2:w2.cell? ⟨pg,s,none⟩=some (.int .i64 (q:Int)):=(Y.out.cell (p:=⟨pg,s,none⟩) (World.ownsRow.lt (show w.ownsRow base 3 1 (.slice (some ⟨pg,0,none⟩) P.length pc) P.length (qab P) from h.rws.own 1 (by simp)) pg rfl).2).trans cp;have hrg:=(World.ownsRow.lt (show w.ownsRow base 164 3 (.slice (some ⟨rg,0,none⟩) R.length rc) R.length (qao R) from h.own) rg rfl).2;have cm2:w2.cell? ⟨rg,k*3+1,none⟩=some (.int .i64 (rm:Int)):=(Y.out.cell (p:=⟨rg,k*3+1,none⟩) hrg).trans cm;have ca2:w2.cell? ⟨rg,k*3,none⟩=some (.int .i64 (ra:Int)):=(Y.out.cell (p:=⟨rg,k*3,none⟩) hrg).trans ca;have fz:=oR.frozenAt (k*3+1);obtain⟨v1,y1⟩:∃v,w2.cell? ⟨lg,rm,none⟩=some v:=⟨_,x1⟩;obtain⟨u3,y3⟩:=cell?_setCell_some (w:=w2) (p:=⟨lg,rm,none⟩) (x:=.int .i64 (s:Int)) (q:=⟨lg,q,none⟩) x3;have l2:=lt_of_block h2.blk;have l3:=(World.ownsRow.lt oP pg rfl).2;have l4:=(World.ownsRow.lt oR rg rfl).2;have KK:∀a b,Kept (fun i=>i=lg) w2 ((w2.setCell ⟨lg,rm,none⟩ a).setCell ⟨lg,q,none⟩ b).drew:=fun a b=>(((Kept.refl (fun i=>i=lg) w2).setCell (p:=⟨lg,rm,none⟩) rfl a).setCell (p:=⟨lg,q,none⟩) rfl b).drew
 have HKK:=qaa KK;have HX5:=qaa (And.intro x5 x6);have HX8:=qaa x8;clear q0 q1 q2 q3 co cp cl cm ca oL oP oR h2lt Y x1 x3 x5 x6 x7 x8 KK
 as_aux_lemma=>
  go_wp2;go_region;have K3:=HKK.out (.int .i64 (s:Int)) (.int .i64 (o:Int));obtain⟨w3,hw3⟩:∃w3,w3=((w2.setCell ⟨lg,rm,none⟩ (.int .i64 (s:Int))).setCell ⟨lg,q,none⟩ (.int .i64 (o:Int))).drew:=⟨_,rfl⟩;rw[←hw3] at K3 ⊢;have HW3:=qaa hw3;clear hw3 HKK y1 y3 x2 x4;have d1:=(K3.cell (p:=⟨pb,1,none⟩) l2 nlp).trans b1;have d2:=(K3.cell (p:=⟨pg,s,none⟩) l3 nlg).trans cp2;have d3:=(K3.cell (p:=⟨rg,k*3+1,none⟩) l4 nlr).trans cm2;have d4:=(K3.cell (p:=⟨rg,k*3,none⟩) l4 nlr).trans ca2;have d5:w3.frozen? ⟨rg,k*3+1,none⟩=false:=(frozen_kept K3 l4 nlr).trans fz;have d6:w3.frozen? ⟨pg,o,none⟩=false:=(frozen_kept K3 l3 nlg).trans HX5.out.2;have d7:w3.frozen? ⟨pg,s,none⟩=false:=(frozen_kept K3 l3 nlg).trans HX8.out;obtain⟨v8,d8⟩:∃v,w3.cell? ⟨pg,o,none⟩=some v:=⟨_,(K3.cell (p:=⟨pg,o,none⟩) l3 nlg).trans HX5.out.1⟩;obtain⟨u9,d9⟩:=cell?_setCell_some (w:=w3) (p:=⟨pg,o,none⟩) (x:=.int .i64 (q:Int)) (q:=⟨pg,s,none⟩) d2;have l4':rg<w3.heap.size:=Nat.lt_of_lt_of_le l4 K3.size;have HKK:Hid (∀a b,Kept (fun i=>i=pg) w3 ((w3.setCell ⟨pg,o,none⟩ a).setCell ⟨pg,s,none⟩ b).drew):=fun a b=>(((Kept.refl (fun i=>i=pg) w3).setCell (p:=⟨pg,o,none⟩) rfl a).setCell (p:=⟨pg,s,none⟩) rfl b).drew
  clear b0 b1 cp2 cm2 ca2 fz HX5 HX8 l2 l3 K3
  as_aux_lemma=>
   go_wp2;go_region;have K4:=HKK.out (.int .i64 (q:Int)) (.int .i64 (rm:Int));obtain⟨w4,hw4⟩:∃w4,w4=((w3.setCell ⟨pg,o,none⟩ (.int .i64 (q:Int))).setCell ⟨pg,s,none⟩ (.int .i64 (rm:Int))).drew:=⟨_,rfl⟩;rw[←hw4] at K4 ⊢;have HW4:=qaa hw4;clear hw4 HKK;have e3:=(K4.cell (p:=⟨rg,k*3+1,none⟩) l4' npr).trans d3;have e4:=(K4.cell (p:=⟨rg,k*3,none⟩) l4' npr).trans d4;have e5:w4.frozen? ⟨rg,k*3+1,none⟩=false:=(frozen_kept K4 l4' npr).trans d5;have f1:IntKind.i64.wrap ((rm:Int)+1)=((rm+1:Nat):Int):=by rw[show(rm:Int)+1=((rm+1:Nat):Int) by simp];exact qak _ (by omega)
   have f2:IntKind.i64.wrap ((ra:Int)+1)=((ra+1:Nat):Int):=by rw[show(ra:Int)+1=((ra+1:Nat):Int) by simp];exact qak _ (by omega)
   have HF:Hid (∀N,PrM ((w4.setCell ⟨rg,k*3+1,none⟩ (.int .i64 ((rm:Int)+1))).drewN N) base pb (.slice (some ⟨lg,0,none⟩) L.length lc) (.slice (some ⟨pg,0,none⟩) P.length pc) (.slice (some ⟨og,0,none⟩) O.length oc) (.slice (some ⟨rg,0,none⟩) R.length rc) ((L.set rm s).set q o) ((P.set o q).set s rm) O (R.set k ⟨ra,rm+1,re⟩)∧Kept (inP (.slice (some ⟨lg,0,none⟩) L.length lc) (.slice (some ⟨pg,0,none⟩) P.length pc) (.slice (some ⟨og,0,none⟩) O.length oc) (.slice (some ⟨rg,0,none⟩) R.length rc)) w ((w4.setCell ⟨rg,k*3+1,none⟩ (.int .i64 ((rm:Int)+1))).drewN N)):=fun N=>by
    obtain⟨m1,m2⟩:=HMK.out;obtain⟨A,hA,y⟩:=qk0 (rg:=rg) (k3:=k*3+1) HW3.out HW4.out N;rw[←hA] at m1 m2;exact⟨m1.below y,(HYK.out.trans m2).trans (Kept.of_below y)⟩
   clear d1 d2 d3 d4 d5 d6 d7 d8 d9 K4
   as_aux_lemma=>
    go_wp2;go_quiet (fail);obtain⟨m1,m2⟩:=HF.out nq;go_wp2;go_ret;exact⟨⟨_,rfl,by simp;try omega⟩,_,_,m1,HP1.out,HP2.out,m2⟩
structure SpM (n W c:Nat) (NX S F T:List Nat) (base pb:Nat) (lv pv ov rv:Value) (O:List Nat) (w0:World) (i p:Nat) (tv:Value) (Tc L P:List Nat) (R:List Rm) (w:World):Prop where
 pr:PrM w base pb lv pv ov rv L P O R
 pt:PtS n L P O R
 mks:MkS n P O R (mrk n W c NX S F T i p)
 tc:TcS R Tc
 ow:qan w w0.heap.size tv Tc
 kp:Kept (fun b=>inP lv pv ov rv b) w0 w
section
variable {n W c:Nat} {NX S F T:List Nat} {base pb:Nat} {lv pv ov rv:Value} {O:List Nat} {w0:World} {i p:Nat} {tv:Value} {Tc L P:List Nat} {R:List Rm} {w w':World}
theorem inP.lt (h:PrM w base pb lv pv ov rv L P O R) {b:Nat} (hb:inP lv pv ov rv b):b<w.heap.size:=by
 have hx:∀(j:Nat) (hj:j<3),([(lv,L),(pv,P),(ov,O)]:List RN)[j].1.ownBlock=some b→b<w.heap.size:=fun j hj hf=>(World.ownsRow.lt (show w.ownsRow base 3 1 _ _ (qab _) from h.rws.own j hj) b hf).2
 rcases hb with hb|hb|hb|hb
 ·exact hx 0 (by decide) hb
 ·exact hx 1 (by decide) hb
 ·exact hx 2 (by decide) hb
 ·exact(World.ownsRow.lt (show w.ownsRow base 164 3 rv R.length (qao R) from h.own) b hb).2
theorem SpM.below (h:SpM n W c NX S F T base pb lv pv ov rv O w0 i p tv Tc L P R w) (x:Below w.heap.size w w'):SpM n W c NX S F T base pb lv pv ov rv O w0 i p tv Tc L P R w':=
 ⟨h.pr.below x,h.pt,h.mks,h.tc,own_below h.ow x,h.kp.trans (Kept.of_below x)⟩
theorem SpM.apart (h:SpM n W c NX S F T base pb lv pv ov rv O w0 i p tv Tc L P R w) (hl:∀b,inP lv pv ov rv b→b<w0.heap.size):∀b,tv.ownBlock=some b→¬inP lv pv ov rv b:=fun b hb hf=>by
 have h1:=(World.ownsRow.lt (show w.ownsRow w0.heap.size 3 1 tv Tc.length (qab Tc) from h.ow) b hb).1;have:=hl b hf;omega
theorem SpM.mark (h:SpM n W c NX S F T base pb lv pv ov rv O w0 i p tv Tc L P R w) (hl:∀b,inP lv pv ov rv b→b<w0.heap.size) (h1:gN S (c*n+gN T i)≤p) (h2:p<gN S (c*n+gN T i+1)) (hn:gN F p<n) {P':List Nat} {R':List Rm}
 (hR:R'=R.set (gN O (gN F p)) ⟨(gR R (gN O (gN F p))).a,(gR R (gN O (gN F p))).m+1,(gR R (gN O (gN F p))).e⟩) (q3:MkS n P' O R' (fun t=>mrk n W c NX S F T i p t∨t=gN F p)) (q4:Kept (inP lv pv ov rv) w w'):
 qan w' w0.heap.size tv Tc∧Kept (fun b=>inP lv pv ov rv b) w0 w'∧MkS n P' O R' (mrk n W c NX S F T i (p+1))∧((gR R (gN O (gN F p))).m=(gR R (gN O (gN F p))).a→TcS R' (Tc++[gN O (gN F p)]))∧(¬(gR R (gN O (gN F p))).m=(gR R (gN O (gN F p))).a→TcS R' Tc):=by
 have hk:=(h.pt.os _ hn).1;have ha:=(h.pt.rm _ hk).1;refine⟨qai h.ow q4 (h.apart hl),h.kp.trans q4,q3.congr (fun s _=>mrk.next h1 h2 hn),fun e=>?_,fun e=>?_⟩
 ·rw[hR];exact h.tc.first hk e
 ·rw[hR];exact h.tc.more hk e ha
end
theorem SpM.app {n W c:Nat} {NX S F T:List Nat} {base pb:Nat} {lv pv ov rv:Value} {O:List Nat} {w0:World} {i p:Nat} {tv tv':Value} {Tc L P:List Nat} {R:List Rm} {w wA w6:World} {k:Nat} (q1:PrM w base pb lv pv ov rv L P O R) (q2:PtS n L P O R) (q3:MkS n P O R (mrk n W c NX S F T i p)) (q4:TcS R (Tc++[k])) (q5:qan w w0.heap.size tv Tc) (q6:Kept (fun b=>inP lv pv ov rv b) w0 w) (hl:∀b,inP lv pv ov rv b→b<w0.heap.size) (hpb:pb<w0.heap.size) (x:Below w.heap.size w wA)
 (g1:w6.ownsRow w0.heap.size 3 1 tv' (Tc.length+1) (qab Tc++[.int .i64 (k:Int)])) (g2:qbb wA w6 tv tv'):SpM n W c NX S F T base pb lv pv ov rv O w0 i p tv' (Tc++[k]) L P R w6:=by
 have oA:wA.ownsRow w0.heap.size 3 1 tv Tc.length (qab Tc):=own_below q5 x;obtain⟨G,k6,hG⟩:∃G:Nat→Prop,Kept G wA w6∧(∀b,G b→tv.ownBlock=some b):=by
  rcases g2 with⟨q,a,b,c⟩|⟨a,b⟩
  ·exact⟨fun b=>some q=some b,qae c,fun b hb=>a.trans hb⟩
  ·exact⟨fun _=>False,Kept.of_below (qad a),fun b hb=>hb.elim⟩
 have hge:∀b,G b→w0.heap.size≤b:=fun b hb=>(World.ownsRow.lt oA b (hG b hb)).1
 refine⟨(q1.below x).kept k6 (fun hb=>by have:=hge _ hb;omega) (fun b hb hf=>by have:=hge _ hf;have:=hl b hb;omega),q2,q3,q4,?_,?_⟩
 ·unfold qan
  rw[qa1,List.length_append,List.length_singleton];exact g1
 ·refine(q6.trans (Kept.of_below x)).trans_new k6 (fun b hb hf=>?_)
  have:=hge b hf;omega
structure SpC (n:Nat) (base pb:Nat) (lv pv ov rv:Value) (L P O:List Nat) (R:List Rm) (w0:World) (tv:Value) (Tc:List Nat) (i:Nat) (rv':Value) (O':List Nat) (R':List Rm) (w:World):Prop where
 pr:PrM w base pb lv pv ov rv' L P O' R'
 ct:CtS n L P O R (fun k=>∃j,j<i∧gN Tc j=k) O' R'
 ow:qan w w0.heap.size tv Tc
 kp:Kept (fun b=>inP lv pv ov rv b∨b=pb) w0 w
 rb:∀b,rv'.ownBlock=some b→rv.ownBlock=some b∨w0.heap.size≤b
 il:i≤Tc.length
section
variable {n:Nat} {base pb:Nat} {lv pv ov rv:Value} {L P O:List Nat} {R:List Rm} {w0:World} {tv:Value} {Tc:List Nat} {i:Nat} {rv':Value} {O':List Nat} {R':List Rm} {w w':World}
theorem SpC.at (h:SpC n base pb lv pv ov rv L P O R w0 tv Tc i rv' O' R' w) (ht:TcS R Tc) (hi:i<Tc.length):gN Tc i<R'.length∧gR R' (gN Tc i)=gR R (gN Tc i)∧(gR R' (gN Tc i)).a<(gR R' (gN Tc i)).m:=by
 have hm:gN Tc i∈Tc:=by rw[qah hi];exact List.getElem_mem hi
 have h1:=(ht.1 _).1 hm;have hd:¬ ∃j,j<i∧gN Tc j=gN Tc i:=fun⟨j,hj,e⟩=>by
  rw[qah hi,qah (show j<Tc.length by omega)] at e;exact(List.pairwise_iff_getElem.1 ht.2 j i (by omega) hi hj) e
 obtain⟨a,b,_⟩:=h.ct.at h1.1 hd;exact⟨a,b,by rw[b];exact h1.2⟩
theorem CtS.dn {Dn Dn':Nat→Prop} (h:CtS n L P O R Dn O' R') (e:∀k,Dn k↔Dn' k):CtS n L P O R Dn' O' R':=by
 have:Dn=Dn':=funext fun k=>propext (e k)
 rw[←this];exact h
theorem SpC.cut (h:SpC n base pb lv pv ov rv L P O R w0 tv Tc i rv' O' R' w) (ht:TcS R Tc) (hi:i<Tc.length) (hl:∀b,inP lv pv ov rv b→b<w0.heap.size) {rv2:Value} {O2:List Nat} {R2:List Rm} (q1:PrM w' base pb lv pv ov rv2 L P O2 R2) (q2:qpf n P O' R' (gN Tc i) O2 R2) (q3:Kept (fun b=>inP lv pv ov rv' b∨b=pb) w w') (q4:∀b,rv2.ownBlock=some b→rv'.ownBlock=some b∨w.heap.size≤b):
 SpC n base pb lv pv ov rv L P O R w0 tv Tc (i+1) rv2 O2 R2 w':=by
 have hm:gN Tc i∈Tc:=by rw[qah hi];exact List.getElem_mem hi
 have h1:=(ht.1 _).1 hm;have hd:¬ ∃j,j<i∧gN Tc j=gN Tc i:=fun⟨j,hj,e⟩=>by
  rw[qah hi,qah (show j<Tc.length by omega)] at e;exact(List.pairwise_iff_getElem.1 ht.2 j i (by omega) hi hj) e
 obtain⟨a,b,_⟩:=h.ct.at h1.1 hd;have hdn:∀k,((∃j,j<i∧gN Tc j=k)∨k=gN Tc i)↔∃j,j<i+1∧gN Tc j=k:=fun k=>by
  refine⟨fun hh=>?_,fun⟨j,hj,e⟩=>?_⟩
  ·rcases hh with⟨j,hj,e⟩|e
   ·exact⟨j,by omega,e⟩
   ·exact⟨i,by omega,e.symm⟩
  ·by_cases e2:j=i
   ·exact .inr (by rw[←e,e2])
   ·exact .inl ⟨j,by omega,e⟩
 refine⟨q1,?_,?_,?_,?_,hi⟩
 ·unfold qpf at q2
  rw[b] at q2;rcases q2 with⟨c1,rfl,rfl⟩|⟨c1,x,y,u,v,c2,c3,c4,rfl⟩
  ·exact(h.ct.full h1.1 hd c1).dn hdn
  ·exact(h.ct.two h1.1 hd h1.2 c1 c2 c3 c4).dn hdn
 ·have ow:w.ownsRow w0.heap.size 3 1 tv Tc.length (qab Tc):=h.ow
  refine qai h.ow q3 (fun k hk hf=>?_);have hge:=(World.ownsRow.lt ow k hk).1;rcases hf with hf|hf
  ·rcases hf with hf|hf|hf|hf
   ·have:=hl k (.inl hf);omega
   ·have:=hl k (.inr (.inl hf));omega
   ·have:=hl k (.inr (.inr (.inl hf)));omega
   ·exact qa5 ow (show w.ownsRow base 164 3 rv' R'.length (qao R') from h.pr.own) (by decide) k hk hf
  ·obtain⟨cs,hc⟩:=qbl ow k hk
   rw[hf,h.pr.blk] at hc;simp at hc
 ·refine h.kp.trans_new q3 (fun k hk hf=>?_)
  rcases hf with hf|hf
  ·rcases hf with hf|hf|hf|hf
   ·exact .inl (.inl hf)
   ·exact .inl (.inr (.inl hf))
   ·exact .inl (.inr (.inr (.inl hf)))
   ·rcases h.rb k hf with h9|h9
    ·exact .inl (.inr (.inr (.inr h9)))
    ·omega
  ·exact .inr hf
 ·intro k hk
  rcases q4 k hk with h9|h9
  ·exact h.rb k h9
  ·exact .inr (Nat.le_trans h.kp.size h9)
end
structure SpD (n W c:Nat) (NX T:List Nat) (base pb:Nat) (lv pv ov rv:Value) (O:List Nat) (R:List Rm) (rv':Value) (L' P' O':List Nat) (R':List Rm) (w0 w:World):Prop where
 pr:PrM w base pb lv pv ov rv' L' P' O' R'
 pt:PtS n L' P' O' R'
 pl:Plain R'
 ml:R.length≤R'.length
 kn:∀s,s<n→gN O' s=gN O s∨R.length≤gN O' s
 iff:∀s,s<n→∀t,t<n→(gN O' s=gN O' t↔gN O s=gN O t∧((∃j,j<T.length∧gN NX (s*W+c)=gN T j)↔∃j,j<T.length∧gN NX (t*W+c)=gN T j))
 kp:Kept (fun b=>inP lv pv ov rv b∨b=pb) w0 w
 rb:∀b,rv'.ownBlock=some b→rv.ownBlock=some b∨w0.heap.size≤b
theorem NAt.kept {G:Nat→Prop} {w w':World} {ao:Option Addr} {L:List Nat} (h:NAt w ao L) (x:Kept G w w') (hG:∀b off,ao=some ⟨b,off,none⟩→¬G b):NAt w' ao L:=by
 rcases h with h|⟨b,off,h1,h2,h3⟩
 ·exact .inl h
 ·exact .inr ⟨b,off,h1,Nat.lt_of_lt_of_le h2 x.size,fun i hi=>(x.cell (p:=⟨b,off+i,none⟩) h2 (hG b off h1)).trans (h3 i hi)⟩
set_option maxRecDepth 100000 in
set_option maxHeartbeats 8000000 in
theorem qi1 {n W c:Nat} {NX S F T:List Nat} (w:World) (base pb:Nat) (lv pv ov rv:Value) (L P O:List Nat) (R:List Rm) (sg sc fg fc tcap:Nat) (ta:Option Addr) (h:PrM w base pb lv pv ov rv L P O R) (hp:PtS n L P O R) (hpl:Plain R) (hB:BkS n W NX S F) (hc:c<W) (hW:W≤256) (hn:n≤65536)
 (hT:∀j,j<T.length→gN T j<n) (hd:∀i,i<T.length→∀j,j<T.length→gN T i=gN T j→i=j) (hfc:F.length≤fc) (hsa:NAt w (some ⟨sg,0,none⟩) S) (hfa:NAt w (some ⟨fg,0,none⟩) F) (hta:NAt w ta T)
 (d1:¬inP lv pv ov rv sg) (d2:¬inP lv pv ov rv fg) (d3:∀b off,ta=some ⟨b,off,none⟩→¬inP lv pv ov rv b):
 Calls Tryz.prog 117 #[.pointer (some ⟨pb,0,none⟩),bkV n sg S.length sc fg F.length fc,.slice ta T.length tcap,.int .i64 (c:Nat)] w fun e w'=>e=.returned (.tuple #[])∧∃rv' L' P' O' R',SpD n W c NX T base pb lv pv ov rv O R rv' L' P' O' R' w w':=by
 obtain⟨i3,hi3,hz30,hz31,hz32⟩:=info_parts Tryz.info3n;have htl:T.length≤n:=qax n T.length (gN T) hT hd;have X1:Below w.heap.size w (w.alloc (.cells #[.int .i64 (n:Int),.slice (some ⟨sg,0,none⟩) S.length sc,.slice (some ⟨fg,0,none⟩) F.length fc] 157)):=al (Below.refl _ _) _;have B1:=heap_alloc_new w (.cells #[.int .i64 (n:Int),.slice (some ⟨sg,0,none⟩) S.length sc,.slice (some ⟨fg,0,none⟩) F.length fc] 157);have hwx:∃w1,w1=w.alloc (.cells #[.int .i64 (n:Int),.slice (some ⟨sg,0,none⟩) S.length sc,.slice (some ⟨fg,0,none⟩) F.length fc] 157):=⟨_,rfl⟩;obtain⟨w1,hw1⟩:=hwx;rw[←hw1] at X1 B1;have h1:=h.below X1;have hpb:pb<w.heap.size:=lt_of_block h.blk;have HLT:Hid (∀b,inP lv pv ov rv b→b<w.heap.size):=fun b hb=>inP.lt h hb
 have HL1:Hid (∀b,inP lv pv ov rv b→b<w1.heap.size):=fun b hb=>Nat.lt_of_lt_of_le (HLT.out b hb) X1.size
 have S0:Hid (SpM n W c NX S F T base pb lv pv ov rv O w1 0 (gN S (c*n+gN T 0)) (.slice none 0 0) [] L P R w1):=
  ⟨h1,hp,(MkS.plain hp hpl).congr (fun s _=>mrk.begin.trans ⟨fun⟨_,j,hj,_⟩=>by omega,fun h=>h.elim⟩),TcS.start hpl,qan.nil _ _,Kept.refl _ _⟩
 have HK:Hid (∀W,Kept (fun b=>inP lv pv ov rv b) w1 W→NAt W (some ⟨sg,0,none⟩) S∧NAt W (some ⟨fg,0,none⟩) F∧NAt W ta T∧W.cell? ⟨w.heap.size,0,none⟩=some (.int .i64 (n:Int))∧W.cell? ⟨w.heap.size,1,none⟩=some (.slice (some ⟨sg,0,none⟩) S.length sc)∧W.cell? ⟨w.heap.size,2,none⟩=some (.slice (some ⟨fg,0,none⟩) F.length fc)):=fun V x=>by
  have Bv:=(x.block _ (lt_of_block B1) (fun hf=>by have:=HLT.out _ hf;omega)).trans B1;refine⟨(hsa.below X1).kept x (fun b off e=>?_),(hfa.below X1).kept x (fun b off e=>?_),(hta.below X1).kept x d3,by rw[cell_of_row _ _ _ _ _ _ Bv];rfl,by rw[cell_of_row _ _ _ _ _ _ Bv];rfl,by rw[cell_of_row _ _ _ _ _ _ Bv];rfl⟩
  ·injection e with e;injection e with e _ _;rw[←e];exact d1
  ·injection e with e;injection e with e _ _;rw[←e];exact d2
 have HB:=qaa hB;have HT:=qaa hT;have HD:=qaa hd;have HX1:=qaa X1;have HPL:=qaa hpl;clear X1 B1 h1 hsa hfa hta d1 d2 d3 hB hT hd hpl;have hnW:n*W≤16777216:=Nat.mul_le_mul hn hW;obtain⟨R0,hR0'⟩:∃R0,R.length=R0:=⟨_,rfl⟩;have hR0:=qaa hR0';have hR0n:R0≤65536:=by have:=hp.many;omega
 clear hR0';unfold bkV;go_enter Tryz.func117,Tryz.ntmps117;go_upto_block 0 with fail
 rw[←hw1];clear hw1;go_wp2;go_loopg [8,17] (T.length+1) (fun g tv x wr=>∃(i:Nat) (Tc L P:List Nat) (R:List Rm),x=.int .i64 (i:Nat)∧Hid (SpM n W c NX S F T base pb lv pv ov rv O w1 i (gN S (c*n+gN T i)) tv Tc L P R wr)∧Hid (R.length=R0)∧i≤T.length∧T.length-i<g)
 case atStart=>exact⟨0,[],L,P,R,rfl,S0,hR0,by omega,by omega⟩
 case round=>
  obtain⟨i,Tc,L,P,R,rfl,SM,HRL,hil,hg⟩:=hrel;have HG:=qaa hg;clear hg S0;obtain⟨ks,kf,kt,e0,e1,e2⟩:=HK.out wr SM.out.kp;by_cases hi:i<T.length
  ·as_aux_lemma=>
    have hi':(i:Int)<(T.length:Int):=by omega
    obtain⟨tb,off,rfl,_,ct⟩:=kt.get hi;have htn:=HT.out i hi;rw[←qah hi] at ct;have hq:=mul_lt hc htn;obtain⟨hle1,hle2⟩:=HB.out.le c hc _ htn;have HA:=qaa (qiz n (gN T i) c (c*n+gN T i) sg sc fg fc (gN S (c*n+gN T i)) (gN S (c*n+gN T i+1)) S F wr rfl (by omega) (by have:=HB.out.sl;omega) rfl rfl hle1 (by have:=HB.out.fl;omega) hfc ks);have HNW:=qaa (fun p h1 h2=>mrk.new HB.out hc HT.out HD.out hi (p:=p) h1 h2);have HROW:=qaa (fun s=>mrk.row (s:=s) HB.out hc HT.out hi);unfold bkV at HA;have HTI:Hid (gN T i=gN T i):=rfl;obtain⟨lo,hlo⟩:∃lo,lo=gN S (c*n+gN T i):=⟨_,rfl⟩;obtain⟨hi2,hhi⟩:∃hi2,hi2=gN S (c*n+gN T i+1):=⟨_,rfl⟩;obtain⟨tt,htt⟩:∃tt,tt=gN T i:=⟨_,rfl⟩;rw[←hlo,←hhi,←htt] at HA;rw[←htt] at ct;rw[←hlo] at SM hle1;rw[←hhi] at hle1 hle2;have HLO:=qaa hlo;have HHI:=qaa hhi;clear hlo hhi htt HTI;go_wp2_with (fail);refine HA.out.mono ?_;rintro e w3 ⟨⟨ao,rfl,hao⟩,x3⟩;have S3:=qaa (SM.out.below x3);have HAO:=qaa hao;clear HA x3 SM ct e0 e1 e2 ks kf kt hao;go_wp2;go_loopg [8,26] (hi2-lo+1) (fun g tv x wr=>∃(j:Nat) (Tc L P:List Nat) (R:List Rm),x=.int .i64 (j:Nat)∧Hid (SpM n W c NX S F T base pb lv pv ov rv O w1 i (lo+j) tv Tc L P R wr)∧Hid (R.length=R0)∧lo+j≤hi2∧hi2-lo-j<g)
    case atStart=>exact⟨0,Tc,L,P,R,rfl,S3,HRL,by omega,by omega⟩
    case round=>
     obtain⟨j,Tc,L,P,R,rfl,SM,HRL,hjl,hg2⟩:=hrel;have HG2:=qaa hg2;clear hg2 S3;by_cases hj:lo+j<hi2
     ·as_aux_lemma=>
       have hj':(j:Int)<((hi2-lo:Nat):Int):=by omega
       have eao:=HAO.out (by omega);subst eao;obtain⟨_,kf,_,_,_,_⟩:=HK.out wr SM.out.kp;have hjF:lo+j<F.length:=by have:=HB.out.fl;omega
       obtain⟨_,_,e9,_,cf⟩:=kf.get hjF;simp only[Option.some.injEq,Addr.mk.injEq,and_true] at e9;obtain⟨rfl,rfl⟩:=e9;rw[←qah hjF,Nat.zero_add] at cf;obtain⟨hsn,hnm⟩:=HNW.out (lo+j) (by rw[←HLO.out];omega) (by rw[←HHI.out];exact hj);have HM:=qaa (qk1 wr base pb lv pv ov rv L P O R (gN F (lo+j)) SM.out.pr SM.out.pt SM.out.mks hsn hnm hn);have HSM:=qaa (fun(P':List Nat) (R':List Rm) (w':World) hR q3 q4=>SM.out.mark (w':=w') HL1.out (by rw[←HLO.out];omega) (by rw[←HHI.out];exact hj) hsn (P':=P') (R':=R') hR q3 q4);obtain⟨s,hs⟩:∃s,s=gN F (lo+j):=⟨_,rfl⟩;rw[←hs] at cf hsn HM HSM;clear hs hnm kf;go_wp2_with (fail);refine HM.out.mono ?_;rintro e w4 ⟨⟨b,rfl,hb⟩,L',P',q1,q2,q3,q4⟩;obtain⟨R',hR'⟩:∃R',R'=R.set (gN O s) ⟨(gR R (gN O s)).a,(gR R (gN O s)).m+1,(gR R (gN O s)).e⟩:=⟨_,rfl⟩;rw[←hR'] at q1 q2 q3;obtain⟨p1,p2,p3,p4,p5⟩:=HSM.out P' R' w4 hR' q3 q4;have HRL':Hid (R'.length=R0):=by unfold Hid;rw[hR',List.length_set];exact HRL.out
       have hko:gN O s<R0:=by have:=(SM.out.pt.os s hsn).1;have:=HRL.out;omega
       clear HM HSM hR';cases b with
       |false=>
        have S5:Hid (SpM n W c NX S F T base pb lv pv ov rv O w1 i (lo+j+1) _ Tc L' P' R' w4):=⟨q1,q2,p3,p5 (fun e=>by have:=hb.2 e;cases this),p1,p2⟩;clear p1 p2 p3 p4 p5 q1 q2 q3 q4 hb cf;go_wp2;go_roundg (hi2-lo-(j+1)+1)
        case measure=>have:=HG2.out;omega
        case rel=>exact⟨j+1,Tc,L',P',R',by first|rfl|go_num|(congr 1;omega),S5,HRL',by omega,by omega⟩
       |true=>
        as_aux_lemma=>
         have htc:=p4 (hb.1 rfl);have hTl:Tc.length+1≤R0:=by have:=htc.le;rw[List.length_append,List.length_singleton] at this;have:=HRL'.out;omega
         obtain⟨_,_,m2,_⟩:=q1.cells;obtain⟨oa,oc,hov⟩:=qan.shape (q1.rws.own 2 (by simp));simp only[List.getElem_cons_succ,List.getElem_cons_zero] at hov;subst hov;obtain⟨og,rfl,co⟩:=qan.gcell (q1.rws.own 2 (by simp)) (k:=s) (by show s<O.length;rw[q2.ol];exact hsn);have n2:(s:Int)<(O.length:Int):=by have:=q2.ol;omega
         obtain⟨ta',tc',htv⟩:=qan.shape p1;subst htv;have x5:=NmP.x5 w4 (gN O s);have O5:Hid ((w4.alloc (.cells #[.int .i64 ((gN O s:Nat):Int)] 3)).ownsRow w1.heap.size 3 1 (.slice ta' Tc.length tc') Tc.length (qab Tc)):=own_below p1 x5;have HN5:=qaa (qbi w4 (gN O s) 3);have HS5:Hid (w1.heap.size≤(w4.alloc (.cells #[.int .i64 ((gN O s:Nat):Int)] 3)).heap.size):=Nat.le_trans p2.size x5.size;have HAP:=qaa (fun(v6:Value) (w6:World) g1 g2=>SpM.app (tv':=v6) (w6:=w6) q1 q2 p3 htc p1 p2 HL1.out (Nat.lt_of_lt_of_le hpb HX1.out.size) x5 g1 g2);clear p1 p2 p3 p4 p5 q1 q2 q3 q4 hb cf htc x5;generalize gN O s=k at *;go_wp2_with (at_builtin;refine qac rfl (.tmp 33) (.tmp 41) 22 rfl w1.heap.size 3 i3 (.int .i64 0) 1 8 Tryz.underlying22 hi3 hz30 hz31 hz32 rfl (by decide) _ Tc.length (qab Tc) rfl O5.out ⟨w4.heap.size,0,none⟩ 1 1 [.int .i64 (k:Nat)] rfl rfl HN5.out (by simp[Value.oneCell']) (by decide) (by unfold maxLen;omega) (by omega) HS5.out ?_;intro v6 w6 g1 g2;have S6:=qaa (HAP.out v6 w6 g1 g2);clear g1 g2);go_roundg (hi2-lo-(j+1)+1)
         case measure=>have:=HG2.out;omega
         case rel=>exact⟨j+1,Tc++[k],L',P',R',by first|rfl|go_num|(congr 1;omega),S6,HRL',by omega,by omega⟩
     ·have hj':¬(j:Int)<((hi2-lo:Nat):Int):=by omega
      have ej:lo+j=hi2:=by omega
      rw[ej] at SM;have S7:Hid (SpM n W c NX S F T base pb lv pv ov rv O w1 (i+1) (gN S (c*n+gN T (i+1))) _ Tc L P R wr):=⟨SM.out.pr,SM.out.pt,SM.out.mks.congr (fun s _=>by rw[HHI.out];exact mrk.begin.trans (HROW.out s).symm),SM.out.tc,SM.out.ow,SM.out.kp⟩;clear ej;have hiw:IntKind.i64.wrap ((i:Int)+1)=((i+1:Nat):Int):=by simp[IntKind.wrap,IntKind.bits,IntKind.signed];omega
      go_wp2;go_roundg (T.length-(i+1)+1)
      case measure=>have:=HG.out;omega
      case rel=>exact⟨i+1,Tc,L,P,R,by first|rfl|go_num|(congr 1;omega),S7,HRL,by omega,by omega⟩
  ·as_aux_lemma=>
    have hi':¬(i:Int)<(T.length:Int):=by omega
    obtain rfl:i=T.length:=by omega
    obtain⟨ta',tc',htv⟩:=qan.shape SM.out.ow;subst htv;have hMM:Hid (MkS n P O R (fun s=>s<n∧∃j,j<T.length∧gN NX (s*W+c)=gN T j)):=SM.out.mks.congr (fun s _=>mrk.begin.symm);have HTC:=qaa SM.out.tc;have HPT:=qaa SM.out.pt;have hTl:Tc.length≤R0:=by have:=HTC.out.le;have:=HRL.out;omega
    have C0:Hid (SpC n base pb lv pv ov rv L P O R w1 (.slice ta' Tc.length tc') Tc 0 rv O R wr):=⟨SM.out.pr,(CtS.start SM.out.pt).dn (fun k=>⟨fun h=>h.elim,fun⟨j,hj,_⟩=>by omega⟩),SM.out.ow,SM.out.kp.mono (fun b hb=>.inl hb),fun b hb=>.inl hb,Nat.zero_le _⟩;clear SM e0 e1 e2 ks kf kt;go_wp2;go_loopg [47] (Tc.length+1) (fun g x wr=>∃(i:Nat) (rv':Value) (O':List Nat) (R':List Rm),x=.int .i64 (i:Nat)∧Hid (SpC n base pb lv pv ov rv L P O R w1 (.slice ta' Tc.length tc') Tc i rv' O' R' wr)∧Tc.length-i<g)
    case atStart=>exact⟨0,rv,O,R,rfl,C0,by omega⟩
    case round=>
     obtain⟨i,rv',O',R',rfl,SC,hg2⟩:=hrel;have HG2:=qaa hg2;clear hg2 C0;have hil2:=SC.out.il;by_cases hi2:i<Tc.length
     ·have hi2':(i:Int)<(Tc.length:Int):=by omega
      obtain⟨tg,rfl,ct⟩:=qan.gcell SC.out.ow hi2;obtain⟨a1,a2,a3⟩:=SC.out.at HTC.out hi2;have HCU:=qaa (qmv wr base pb lv pv ov rv' L P O' R' (gN Tc i) SC.out.pr SC.out.ct.pt a1 a3 hn);have HNX:=qaa (fun(rv2:Value) (O2:List Nat) (R2:List Rm) (w':World) q1 q2 q3 q4=>SC.out.cut (w':=w') HTC.out hi2 HL1.out (rv2:=rv2) (O2:=O2) (R2:=R2) q1 q2 q3 q4);obtain⟨k,hk⟩:∃k,k=gN Tc i:=⟨_,rfl⟩;rw[←hk] at ct HCU HNX;clear hk a1 a2 a3;go_wp2_with (fail);refine HCU.out.mono ?_;rintro e w4 ⟨rfl,rv2,O2,R2,q1,q2,q3,q4⟩;have S5:=qaa (HNX.out rv2 O2 R2 w4 q1 q2 q3 q4);clear HCU HNX q1 q2 q3 q4 ct;go_wp2;go_roundg (Tc.length-(i+1)+1)
      case measure=>have:=HG2.out;omega
      case rel=>exact⟨i+1,rv2,O2,R2,by first|rfl|go_num|(congr 1;omega),S5,by omega⟩
     ·have hi2':¬(i:Int)<(Tc.length:Int):=by omega
      obtain rfl:i=Tc.length:=by omega
      go_wp2;refine bodyPost_end (v:=.tuple #[]) (results_none rfl _ _ _) rfl ?_;obtain⟨f1,f2,f3⟩:=SC.out.ct.fin HPT.out hMM.out (fun k hk=>⟨fun⟨j,hj,e⟩=>((HTC.out.1 k).1 (by rw[←e,qah hj];exact List.getElem_mem hj)).2,fun e=>by
       obtain⟨j,hj,e2⟩:=List.mem_iff_getElem.1 ((HTC.out.1 k).2 ⟨hk,e⟩);exact⟨j,hj,by rw[qah hj];exact e2⟩⟩)
      have hrr:R.length=R0:=HRL.out;refine⟨rfl,rv',L,P,O',R',SC.out.pr,SC.out.ct.pt,f1,?_,fun s hs=>?_,fun s hs t ht=>?_,?_,fun b hb=>?_⟩
      ·rw[hR0.out,←hrr];exact SC.out.ct.ml
      ·rw[hR0.out,←hrr];exact f2 s hs
      ·rw[f3 s hs t ht]
       exact⟨fun⟨x1,x2⟩=>⟨x1,⟨fun y=>(x2.1 ⟨hs,y⟩).2,fun y=>(x2.2 ⟨ht,y⟩).2⟩⟩,fun⟨x1,x2⟩=>⟨x1,⟨fun y=>⟨ht,x2.1 y.2⟩,fun y=>⟨hs,x2.2 y.2⟩⟩⟩⟩
      ·exact(Kept.of_below HX1.out).trans SC.out.kp
      ·rcases SC.out.rb b hb with h9|h9
       ·exact .inl h9
       ·exact .inr (Nat.le_trans HX1.out.size h9)
end Go.Proofs.YtdgoilkgplnhfaaGreat

