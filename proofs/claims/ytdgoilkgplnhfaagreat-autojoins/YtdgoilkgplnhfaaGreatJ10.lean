/-
  The code's cut by its contract. Condition: at most 65536 states.
-/
import Derived.BigRegion
import Derived.Deep.CutBlock
import Derived.Deep.RegionLaw
import Derived.Deep.AppendLies
import Derived.Test.YtdgoilkgplnhfaaGreatJ09
namespace Go.Proofs.YtdgoilkgplnhfaaGreat
open Go.RowKit Go.Lib
theorem PrM.room {w:World} {base pb:Nat} {lv pv ov:Value} {rg cr:Nat} {L P O:List Nat} {R:List Rm} (h:PrM w base pb lv pv ov (.slice (some ⟨rg,0,none⟩) R.length cr) L P O R) {k:Nat} (hk:k<R.length) (m:Nat):
 PrM (w.setCell ⟨rg,k*3+1,none⟩ (.int .i64 (m:Int))) base pb lv pv ov (.slice (some ⟨rg,0,none⟩) R.length cr) L P O (R.set k ⟨(gR R k).a,m,(gR R k).e⟩)∧Kept (fun b=>b=rg) w (w.setCell ⟨rg,k*3+1,none⟩ (.int .i64 (m:Int))):=by
 obtain⟨o5,k5⟩:=h.own.mark hk m;have oR:w.ownsRow base 164 3 (.slice (some ⟨rg,0,none⟩) R.length cr) R.length (qao R):=h.own;refine⟨⟨(k5.block pb (lt_of_block h.blk) (fun e=>h.notpb rg (.inr (.inr (.inr rfl))) e.symm)).trans h.blk,h.ge,h.rws.kept k5 (fun j hj b hb e=>?_),o5⟩,k5⟩;exact qa5 (show w.ownsRow base 3 1 _ _ (qab _) from h.rws.own j hj) oR (by decide) b hb (by rw[e];rfl)
def qpf (n:Nat) (P O:List Nat) (R:List Rm) (k:Nat) (O2:List Nat) (R2:List Rm):Prop:=
 ((gR R k).m=(gR R k).e∧O2=O∧R2=R.set k ⟨(gR R k).a,(gR R k).a,(gR R k).e⟩)∨
 ((gR R k).m<(gR R k).e∧∃x y u v,((x=(gR R k).a∧y=(gR R k).m∧u=(gR R k).m∧v=(gR R k).e)∨(x=(gR R k).m∧y=(gR R k).e∧u=(gR R k).a∧v=(gR R k).m))∧O2.length=n∧(∀s,s<n→gN O2 s=if x≤gN P s∧gN P s<y then R.length else gN O s)∧R2=R.set k ⟨u,u,v⟩++[⟨x,x,y⟩])
structure CuS (n:Nat) (base pb:Nat) (lv pv:Value) (og oc on:Nat) (rv:Value) (L P O:List Nat) (R:List Rm) (q x y:Nat) (wx:World) (j:Nat) (O2:List Nat) (w:World):Prop where
 pr:PrM w base pb lv pv (.slice (some ⟨og,0,none⟩) on oc) rv L P O2 R
 ln:O2.length=n
 vl:∀s,s<n→gN O2 s=if x≤gN P s∧gN P s<x+j then q else gN O s
 kp:Kept (fun b=>b=og) wx w
 jl:x+j≤y
theorem CuS.next {n base pb:Nat} {lv pv:Value} {og oc on:Nat} {rv:Value} {L P O:List Nat} {R:List Rm} {q x y:Nat} {wx:World} {j:Nat} {O2:List Nat} {w:World} (h:CuS n base pb lv pv og oc on rv L P O R q x y wx j O2 w) (hl:∀i,i<n→gN L i<n∧gN P (gN L i)=i) (hpi:∀s,s<n→gN P s<n∧gN L (gN P s)=s) (hj:x+j<y) (hy:y≤n):gN L (x+j)<n∧CuS n base pb lv pv og oc on rv L P O R q x y wx (j+1) (O2.set (gN L (x+j)) q) (w.setCell ⟨og,gN L (x+j),none⟩ (.int .i64 (q:Int))).drew:=by
 have h1:=hl (x+j) (by omega);have r:=h.pr.rws.store (i:=2) (by simp) rfl (gN L (x+j)) q;have k1:Kept (fun b=>b=og) w (w.setCell ⟨og,gN L (x+j),none⟩ (.int .i64 (q:Int))):=(Kept.refl (fun b=>b=og) w).setCell (p:=⟨og,gN L (x+j),none⟩) rfl _;have oO:w.ownsRow base 3 1 (.slice (some ⟨og,0,none⟩) on oc) O2.length (qab O2):=h.pr.rws.own 2 (by simp);have PR:PrM (w.setCell ⟨og,gN L (x+j),none⟩ (.int .i64 (q:Int))) base pb lv pv (.slice (some ⟨og,0,none⟩) on oc) rv L P (O2.set (gN L (x+j)) q) R:=⟨(k1.block pb (lt_of_block h.pr.blk) (fun e=>h.pr.notpb og (.inr (.inr (.inl rfl))) e.symm)).trans h.pr.blk,h.pr.ge,r,qai h.pr.own k1 (fun b hb e=>qa5 (show w.ownsRow base 164 3 rv R.length (qao R) from h.pr.own) oO (by decide) b hb (by rw[e];rfl))⟩;refine⟨h1.1,PR.below (Below.refl _ _).drew,by rw[List.length_set];exact h.ln,fun s hs=>?_,(h.kp.trans k1).drew,by omega⟩
 ·rw[qbw _ (by rw[h.ln];exact h1.1),h.vl s hs]
  by_cases e:s=gN L (x+j)
  ·rw[if_pos e,if_pos (by rw[e,h1.2];omega)]
  ·have hne:¬gN P s=x+j:=fun e2=>e (by rw[←e2,(hpi s hs).2])
   rw[if_neg e];by_cases e3:x≤gN P s∧gN P s<x+j
   ·rw[if_pos e3,if_pos (by omega)]
   ·rw[if_neg e3,if_neg (by omega)]
theorem qgs (R:List Rm) (k:Nat) (h:k<R.length) (r:Rm):(((qao R).set (k*3) (.int .i64 (r.a:Int))).set (k*3+1) (.int .i64 (r.m:Int))).set (k*3+2) (.int .i64 (r.e:Int))=qao (R.set k r):=by
 refine List.ext_getElem? (fun i=>?_);rw[List.getElem?_set,List.getElem?_set,List.getElem?_set];simp only[List.length_set];by_cases hi:i<R.length*3
 ·obtain⟨q,j,hj,rfl⟩:∃q j,j<3∧i=q*3+j:=⟨i/3,i%3,by omega,by omega⟩
  rw[qaz (R.set k r) q j (by rw[List.length_set];omega) hj,qc5 R h,qa0];by_cases e:q=k
  ·subst e
   rw[if_pos rfl]
   match j,hj with
   |0,_=>rw[if_neg (by omega),if_neg (by omega),if_pos (by omega),if_pos (by omega)];simp[rmC]
   |1,_=>rw[if_neg (by omega),if_pos rfl,if_pos (by omega)];simp[rmC]
   |2,_=>rw[if_pos rfl,if_pos (by omega)];simp[rmC]
  ·rw[if_neg (by omega),if_neg (by omega),if_neg (by omega),if_neg e,qaz R _ _ (by omega) hj]
 ·rw[if_neg (by omega),if_neg (by omega),if_neg (by omega),List.getElem?_eq_none (by rw[qa0];omega),List.getElem?_eq_none (by rw[qa0,List.length_set];omega)]
theorem Tryz.info164n:(Tryz.prog.info? 164).map (fun i=>(i.zero,i.size,i.bytes))=some (some (.agg #[.int .i64 0,.int .i64 0,.int .i64 0]),3,24):=by kernel_rfl
theorem new3 (w:World) (r:Rm):∀j u,(rmC r)[j]? =some u→(w.alloc (.cells #[.int .i64 (r.a:Int),.int .i64 (r.m:Int),.int .i64 (r.e:Int)] 164)).drew.cell? ((⟨w.heap.size,0,none⟩:Addr).add j)=some u:=fun j u hu=>by
 have B:=heap_alloc_new w (.cells #[.int .i64 (r.a:Int),.int .i64 (r.m:Int),.int .i64 (r.e:Int)] 164);show(w.alloc (.cells #[.int .i64 (r.a:Int),.int .i64 (r.m:Int),.int .i64 (r.e:Int)] 164)).cell? _=_
 match j,hu with
 |0,hu=>simp[rmC] at hu;subst hu;rw[show(⟨w.heap.size,0,none⟩:Addr).add 0=⟨w.heap.size,0,none⟩ by simp[Addr.add],cell_of_row _ _ _ _ _ _ B];rfl
 |1,hu=>simp[rmC] at hu;subst hu;rw[show(⟨w.heap.size,0,none⟩:Addr).add 1=⟨w.heap.size,1,none⟩ by simp[Addr.add],cell_of_row _ _ _ _ _ _ B];rfl
 |2,hu=>simp[rmC] at hu;subst hu;rw[show(⟨w.heap.size,0,none⟩:Addr).add 2=⟨w.heap.size,2,none⟩ by simp[Addr.add],cell_of_row _ _ _ _ _ _ B];rfl
 |n+3,hu=>simp[rmC] at hu
theorem PrM.room3 {w:World} {base pb:Nat} {lv pv ov:Value} {rg rn cr:Nat} {L P O:List Nat} {R:List Rm} (hrn:R.length=rn) (h:PrM w base pb lv pv ov (.slice (some ⟨rg,0,none⟩) rn cr) L P O R) {k:Nat} (hk:k<R.length) (u v z:Nat):
 PrM (((w.setCell ⟨rg,k*3,none⟩ (.int .i64 (u:Int))).setCell ⟨rg,k*3+1,none⟩ (.int .i64 (v:Int))).setCell ⟨rg,k*3+2,none⟩ (.int .i64 (z:Int))) base pb lv pv ov (.slice (some ⟨rg,0,none⟩) rn cr) L P O (R.set k ⟨u,v,z⟩)∧Kept (fun b=>b=rg) w (((w.setCell ⟨rg,k*3,none⟩ (.int .i64 (u:Int))).setCell ⟨rg,k*3+1,none⟩ (.int .i64 (v:Int))).setCell ⟨rg,k*3+2,none⟩ (.int .i64 (z:Int))):=by
 subst hrn;have oR:w.ownsRow base 164 3 (.slice (some ⟨rg,0,none⟩) R.length cr) R.length (qao R):=h.own;obtain⟨o1,_⟩:=oR.stored (k*3) (.int .i64 (u:Int));obtain⟨o2,_⟩:=o1.stored (k*3+1) (.int .i64 (v:Int));obtain⟨o3,_⟩:=o2.stored (k*3+2) (.int .i64 (z:Int));have k5:Kept (fun b=>b=rg) w (((w.setCell ⟨rg,k*3,none⟩ (.int .i64 (u:Int))).setCell ⟨rg,k*3+1,none⟩ (.int .i64 (v:Int))).setCell ⟨rg,k*3+2,none⟩ (.int .i64 (z:Int))):=(((Kept.refl (fun b=>b=rg) w).setCell (p:=⟨rg,k*3,none⟩) rfl _).setCell (p:=⟨rg,k*3+1,none⟩) rfl _).setCell (p:=⟨rg,k*3+2,none⟩) rfl _;have o4:qes (((w.setCell ⟨rg,k*3,none⟩ (.int .i64 (u:Int))).setCell ⟨rg,k*3+1,none⟩ (.int .i64 (v:Int))).setCell ⟨rg,k*3+2,none⟩ (.int .i64 (z:Int))) base (.slice (some ⟨rg,0,none⟩) R.length cr) (R.set k ⟨u,v,z⟩):=by
  have e:=qgs R k hk ⟨u,v,z⟩;simp only at e;unfold qes;rw[←e,List.length_set];exact o3
 refine⟨⟨(k5.block pb (lt_of_block h.blk) (fun e=>h.notpb rg (.inr (.inr (.inr rfl))) e.symm)).trans h.blk,h.ge,h.rws.kept k5 (fun j hj b hb e=>?_),o4⟩,k5⟩;exact qa5 (show w.ownsRow base 3 1 _ _ (qab _) from h.rws.own j hj) oR (by decide) b hb (by rw[e];rfl)
theorem PrM.push {w wA w6:World} {base pb:Nat} {lv pv ov rv:Value} {L P O:List Nat} {R:List Rm} (h:PrM w base pb lv pv ov rv L P O R) (x:Below w.heap.size w wA) {r:Rm} {g cp:Nat} (h1:w6.ownsRow base 164 3 (.slice (some ⟨g,0,none⟩) (R.length+1) cp) (R.length+1) (qao R++rmC r)) (h2:wA.grownBy w6 rv.ownBlock) (h3:rv.ownBlock=some g∨g=wA.heap.size):
 w6.heap[pb]? =some (.cells #[lv,pv,ov,rv] 161 (0,0))∧PrM (w6.setCell ⟨pb,3,none⟩ (.slice (some ⟨g,0,none⟩) (R.length+1) cp)) base pb lv pv ov (.slice (some ⟨g,0,none⟩) (R.length+1) cp) L P O (R++[r])∧Kept (fun b=>inP lv pv ov rv b∨b=pb) w (w6.setCell ⟨pb,3,none⟩ (.slice (some ⟨g,0,none⟩) (R.length+1) cp))∧∀b,(.slice (some ⟨g,0,none⟩) (R.length+1) cp:Value).ownBlock=some b→rv.ownBlock=some b∨w.heap.size≤b:=by
 have hA:=h.below x;have k6:=qae h2;have oR:wA.ownsRow base 164 3 rv R.length (qao R):=hA.own;have b6:w6.heap[pb]? =some (.cells #[lv,pv,ov,rv] 161 (0,0)):=(k6.block pb (lt_of_block hA.blk) (fun e=>hA.notpb pb (.inr (.inr (.inr e))) rfl)).trans hA.blk;have r6:=hA.rws.kept k6 (fun j hj b hb e=>qa5 (show wA.ownsRow base 3 1 _ _ (qab _) from hA.rws.own j hj) oR (by decide) b hb e);have k7:Kept (fun b=>b=pb) w6 (w6.setCell ⟨pb,3,none⟩ (.slice (some ⟨g,0,none⟩) (R.length+1) cp)):=(Kept.refl (fun b=>b=pb) w6).setCell (p:=⟨pb,3,none⟩) rfl _;have hty:∀ {v:Value} {size m:Nat} {e:TypeId} {xs:List Value},w6.ownsRow base e size v m xs→e≠161→∀b,v.ownBlock=some b→¬b=pb:=fun ho hne b hb e=>by
  obtain⟨cs,hc⟩:=qbl ho b hb;rw[e,b6] at hc;injection hc with hc
  injection hc with _ hc _
  exact hne hc.symm
 refine⟨b6,⟨block_setCell b6 3 _,h.ge,r6.kept k7 (fun j hj b hb=>hty (show w6.ownsRow base 3 1 _ _ (qab _) from r6.own j hj) (by decide) b hb),?_⟩,?_,fun b hb=>?_⟩
 ·unfold qes
  rw[qc0,List.length_append,List.length_singleton];exact qai h1 k7 (hty h1 (by decide))
 ·exact((Kept.of_below x).trans (k6.mono (fun b hb=>.inl (.inr (.inr (.inr hb)))))).trans (k7.mono (fun b hb=>.inr hb))
 ·have e:g=b:=Option.some.inj hb
  rcases h3 with h3|h3
  ·exact .inl (by rw[h3,e])
  ·exact .inr (by have:=x.size;omega)
theorem qgt {w:World} {base size n:Nat} {e:TypeId} {ao:Option Addr} {cap:Nat} {xs:List Value} (h:w.ownsRow base e size (.slice ao n cap) n xs):n≤cap:=by
 rcases h.2 with⟨e1,e2⟩|⟨g,c,cur,e1,_,_,h3,_⟩
 ·omega
 ·injection e1 with _ _ e3
  omega
theorem qas {w:World} {g:Nat} {cs:Array Value}:Kept (fun k=>k=g) w (w.setRow g cs):=⟨rfl,rfl,rfl,by simp[World.setRow],fun k _ hk=>setRow_other w g k cs hk⟩
theorem qi0 (w:World) (a b:Array Value):Below w.heap.size w ((w.alloc (.cells a 164)).alloc (.cells b 164))∧((w.alloc (.cells a 164)).alloc (.cells b 164)).heap[w.heap.size]? =some (.cells a 164 (0,0))∧((w.alloc (.cells a 164)).alloc (.cells b 164)).heap[w.heap.size+1]? =some (.cells b 164 (0,0)):=by
 have B1:=heap_alloc_new w (.cells a 164);have s1:(w.alloc (.cells a 164)).heap.size=w.heap.size+1:=by simp
 have hb1:Below w.heap.size w (w.alloc (.cells a 164)):=al (Below.refl _ _) _;generalize w.alloc (.cells a 164)=wa at *;have B2:=heap_alloc_new wa (.cells b 164);have Y2:Below wa.heap.size wa (wa.alloc (.cells b 164)):=al (Below.refl _ _) _;rw[s1] at B2;exact⟨bt hb1 Y2 (Nat.le_refl _),(Y2.block _ (lt_of_block B1)).trans B1,B2⟩
set_option maxRecDepth 100000 in
set_option maxHeartbeats 4000000 in
theorem qmv {n:Nat} (w:World) (base pb:Nat) (lv pv ov rv:Value) (L P O:List Nat) (R:List Rm) (k:Nat) (h:PrM w base pb lv pv ov rv L P O R) (hp:PtS n L P O R) (hk:k<R.length) (ham:(gR R k).a<(gR R k).m) (hn:n≤65536):
 Calls Tryz.prog 141 #[.pointer (some ⟨pb,0,none⟩),.int .i64 (k:Nat)] w fun e w'=>e=.returned (.tuple #[])∧∃rv' O2 R2,PrM w' base pb lv pv ov rv' L P O2 R2∧qpf n P O R k O2 R2∧Kept (fun b=>inP lv pv ov rv b∨b=pb) w w'∧∀b,rv'.ownBlock=some b→rv.ownBlock=some b∨w.heap.size≤b:=by
 obtain⟨r1,r2,r3,r4⟩:=hp.rm k hk;obtain⟨q0,q1,q2,q3⟩:=h.cells;obtain⟨la,lc,hlv⟩:=qan.shape (h.rws.own 0 (by simp));obtain⟨oa,oc,hov⟩:=qan.shape (h.rws.own 2 (by simp));simp only[List.getElem_cons_succ,List.getElem_cons_zero] at hlv hov;subst hlv hov;obtain⟨rg,rc,rfl⟩:=h.own.at (by omega);have ca:=h.own.cell hk (show 0<3 by decide);rw[Nat.add_zero] at ca;have cm:=h.own.cell hk (show 1<3 by decide);have ce:=h.own.cell hk (show 2<3 by decide);have hrl:=hp.many;have fz0:w.frozen? ⟨rg,k*3+1,none⟩=false:=World.ownsRow.frozenAt (show w.ownsRow base 164 3 (.slice (some ⟨rg,0,none⟩) R.length rc) R.length (qao R) from h.own) (k*3+1);generalize hgr:gR R k=r at *;have HGR:Hid (gR R k=r):=hgr;clear hgr;obtain⟨ra,rm,re⟩:=r;simp only[rmC,List.getElem?_cons_succ,List.getElem?_cons_zero] at cm ca ce;simp only at r1 r2 r3 r4 ham ⊢;have a3:(k:Int)<(R.length:Int):=by omega
 have hne:¬rg=w.heap.size:=by
  have:=(World.ownsRow.lt (show w.ownsRow base 164 3 (.slice (some ⟨rg,0,none⟩) R.length rc) R.length (qao R) from h.own) rg rfl).2;omega
 have hpl:=lt_of_block h.blk;have hne2:¬pb=w.heap.size:=by omega
 go_enter Tryz.func141,Tryz.ntmps141;go_upto_region 1 with fail
 have X1:Below w.heap.size w (w.alloc (.cells #[.int .i64 (ra:Int),.int .i64 (rm:Int),.int .i64 (re:Int)] 164)):=al (Below.refl _ _) _;have B1:=heap_alloc_new w (.cells #[.int .i64 (ra:Int),.int .i64 (rm:Int),.int .i64 (re:Int)] 164);have hrgl:rg<w.heap.size:=(World.ownsRow.lt (show w.ownsRow base 164 3 (.slice (some ⟨rg,0,none⟩) R.length rc) R.length (qao R) from h.own) rg rfl).2;generalize w.alloc (.cells #[.int .i64 (ra:Int),.int .i64 (rm:Int),.int .i64 (re:Int)] 164)=w1 at *;have h1:=h.below X1;have s3:=(X1.cell (p:=⟨pb,3,none⟩) hpl).trans q3;have sm:=(X1.cell (p:=⟨rg,k*3+1,none⟩) hrgl).trans cm;have sf:w1.frozen? ⟨rg,k*3+1,none⟩=false:=World.ownsRow.frozenAt (show w1.ownsRow base 164 3 (.slice (some ⟨rg,0,none⟩) R.length rc) R.length (qao R) from h1.own) (k*3+1);have t0:w1.cell? ⟨w.heap.size,0,none⟩=some (.int .i64 (ra:Int)):=by rw[cell_of_row _ _ _ _ _ _ B1];rfl
 obtain⟨g2,k2⟩:=h1.room hk ra;rw[HGR.out] at g2;simp only at g2;have HG2:=qaa (And.intro g2 k2);have HB1:=qaa B1;have HX1:=qaa X1;clear q0 q1 q2 q3 ca cm ce fz0 X1 B1 g2 k2 h1;go_region;have HQ:Hid (∀(A:World),Below A.heap.size A A.drew):=fun A=>(Below.refl _ _).drew
 obtain⟨g2,k2⟩:=HG2.out;have y2:=HQ.out (w1.setCell ⟨rg,k*3+1,none⟩ (.int .i64 (ra:Int)));have B2:=(k2.block _ (lt_of_block HB1.out) (fun e=>hne e.symm)).trans HB1.out;have g3:=g2.below y2;have k3:=k2.trans (Kept.of_below y2);have B3:=(y2.block _ (lt_of_block B2)).trans B2;generalize (w1.setCell ⟨rg,k*3+1,none⟩ (.int .i64 (ra:Int))).drew=w2 at *;have c0:w2.cell? ⟨w.heap.size,0,none⟩=some (.int .i64 (ra:Int)):=by rw[cell_of_row _ _ _ _ _ _ B3];rfl
 have c1:w2.cell? ⟨w.heap.size,1,none⟩=some (.int .i64 (rm:Int)):=by rw[cell_of_row _ _ _ _ _ _ B3];rfl
 have c2:w2.cell? ⟨w.heap.size,2,none⟩=some (.int .i64 (re:Int)):=by rw[cell_of_row _ _ _ _ _ _ B3];rfl
 have HG3:=qaa (And.intro g3 k3);have HB3:=qaa B3;have hwl:=lt_of_block B3;have hw0:¬w.heap.size=w2.heap.size:=by omega
 have hw1:¬w.heap.size=w2.heap.size+1:=by omega
 clear HG2 y2 B2 B3 g2 k2 g3 k3 s3 sm sf t0;by_cases hme:rm=re
 ·have hme':(rm:Int)=(re:Int):=by omega
  go_wp2
  (try simp only[Exit.inBlock,Exit.then])
  refine bodyPost_ret (results_none rfl _ _ _) rfl ?_;refine⟨rfl,_,O,_,HG3.out.1,.inl ⟨by rw[HGR.out];exact hme,rfl,by rw[HGR.out]⟩,?_,fun b hb=>.inl hb⟩;exact((Kept.of_below HX1.out).trans (HG3.out.2.mono (fun b hb=>.inl (.inr (.inr (.inr (by rw[hb];rfl)))))))
 ·have hme':¬(rm:Int)=(re:Int):=by omega
  have X4:Hid (Below w2.heap.size w2 ((w2.alloc (.cells #[.int .i64 (ra:Int),.int .i64 (ra:Int),.int .i64 (rm:Int)] 164)).alloc (.cells #[.int .i64 (rm:Int),.int .i64 (rm:Int),.int .i64 (re:Int)] 164))∧((w2.alloc (.cells #[.int .i64 (ra:Int),.int .i64 (ra:Int),.int .i64 (rm:Int)] 164)).alloc (.cells #[.int .i64 (rm:Int),.int .i64 (rm:Int),.int .i64 (re:Int)] 164)).heap[w2.heap.size]? =some (.cells #[.int .i64 (ra:Int),.int .i64 (ra:Int),.int .i64 (rm:Int)] 164 (0,0))∧((w2.alloc (.cells #[.int .i64 (ra:Int),.int .i64 (ra:Int),.int .i64 (rm:Int)] 164)).alloc (.cells #[.int .i64 (rm:Int),.int .i64 (rm:Int),.int .i64 (re:Int)] 164)).heap[w2.heap.size+1]? =some (.cells #[.int .i64 (rm:Int),.int .i64 (rm:Int),.int .i64 (re:Int)] 164 (0,0))):=qi0 w2 _ _;have f1:IntKind.i64.wrap ((rm:Int)-(ra:Int))=((rm-ra:Nat):Int):=by rw[show(rm:Int)-(ra:Int)=((rm-ra:Nat):Int) by omega];exact qak _ (by omega)
  have f2:IntKind.i64.wrap ((re:Int)-(rm:Int))=((re-rm:Nat):Int):=by rw[show(re:Int)-(rm:Int)=((re-rm:Nat):Int) by omega];exact qak _ (by omega)
  go_upto_if 54 with fail
  generalize (w2.alloc (.cells #[.int .i64 (ra:Int),.int .i64 (ra:Int),.int .i64 (rm:Int)] 164)).alloc (.cells #[.int .i64 (rm:Int),.int .i64 (rm:Int),.int .i64 (re:Int)] 164)=w4 at *;go_cut [] (fun wx=>∃x y u v:Nat,Hid ((x=ra∧y=rm∧u=rm∧v=re)∨(x=rm∧y=re∧u=ra∧v=rm))∧Hid (wx.heap[w2.heap.size]? =some (.cells #[.int .i64 (x:Int),.int .i64 (x:Int),.int .i64 (y:Int)] 164 (0,0)))∧Hid (wx.heap[w2.heap.size+1]? =some (.cells #[.int .i64 (u:Int),.int .i64 (u:Int),.int .i64 (v:Int)] 164 (0,0)))∧Hid (Below w2.heap.size w2 wx))
  case first=>
   obtain⟨x4,b2,b3⟩:=X4.out;have d0:w4.cell? ⟨w2.heap.size,0,none⟩=some (.int .i64 (ra:Int)):=by rw[cell_of_row _ _ _ _ _ _ b2];rfl
   have d1:w4.cell? ⟨w2.heap.size,1,none⟩=some (.int .i64 (ra:Int)):=by rw[cell_of_row _ _ _ _ _ _ b2];rfl
   have d2:w4.cell? ⟨w2.heap.size,2,none⟩=some (.int .i64 (rm:Int)):=by rw[cell_of_row _ _ _ _ _ _ b2];rfl
   have e0:w4.cell? ⟨w2.heap.size+1,0,none⟩=some (.int .i64 (rm:Int)):=by rw[cell_of_row _ _ _ _ _ _ b3];rfl
   have e1:w4.cell? ⟨w2.heap.size+1,1,none⟩=some (.int .i64 (rm:Int)):=by rw[cell_of_row _ _ _ _ _ _ b3];rfl
   have e2:w4.cell? ⟨w2.heap.size+1,2,none⟩=some (.int .i64 (re:Int)):=by rw[cell_of_row _ _ _ _ _ _ b3];rfl
   have HX:=qaa (And.intro x4 (And.intro b2 b3));clear x4 b2 b3 X4;by_cases hsz:((re-rm:Nat):Int)<((rm-ra:Nat):Int)
   ·have HI:Hid ((Tryz.prog.info? 164).map (·.size)=some 3):=by unfold Hid;kernel_rfl
    have A1:Hid ((#[.int .i64 (rm:Int),.int .i64 (rm:Int),.int .i64 (re:Int)]:Array Value).all (·.oneCell')=true):=by unfold Hid;simp[Value.oneCell']
    have A2:Hid ((#[.int .i64 (ra:Int),.int .i64 (ra:Int),.int .i64 (rm:Int)]:Array Value).all (·.oneCell')=true):=by unfold Hid;simp[Value.oneCell']
    have hlt3:=lt_of_block HX.out.2.2;have hne3:¬w2.heap.size+1=w2.heap.size:=by omega
    have B6:=setRow_heap w4 w2.heap.size _ #[.int .i64 (rm:Int),.int .i64 (rm:Int),.int .i64 (re:Int)] 164 (0,0) HX.out.2.1;have k6:Kept (fun k=>k=w2.heap.size) w4 (w4.setRow w2.heap.size #[.int .i64 (rm:Int),.int .i64 (rm:Int),.int .i64 (re:Int)]):=qas;have B5:=(k6.block _ hlt3 hne3).trans HX.out.2.2;have B7:=setRow_heap (w4.setRow w2.heap.size #[.int .i64 (rm:Int),.int .i64 (rm:Int),.int .i64 (re:Int)]) (w2.heap.size+1) _ #[.int .i64 (ra:Int),.int .i64 (ra:Int),.int .i64 (rm:Int)] 164 (0,0) B5;have k7:Kept (fun k=>k=w2.heap.size+1) (w4.setRow w2.heap.size #[.int .i64 (rm:Int),.int .i64 (rm:Int),.int .i64 (re:Int)]) ((w4.setRow w2.heap.size #[.int .i64 (rm:Int),.int .i64 (rm:Int),.int .i64 (re:Int)]).setRow (w2.heap.size+1) #[.int .i64 (ra:Int),.int .i64 (ra:Int),.int .i64 (rm:Int)]):=qas;have HR:Hid (∃wx,wx=(w4.setRow w2.heap.size #[.int .i64 (rm:Int),.int .i64 (rm:Int),.int .i64 (re:Int)]).setRow (w2.heap.size+1) #[.int .i64 (ra:Int),.int .i64 (ra:Int),.int .i64 (rm:Int)]∧wx.heap[w2.heap.size]? =some (.cells #[.int .i64 (rm:Int),.int .i64 (rm:Int),.int .i64 (re:Int)] 164 (0,0))∧wx.heap[w2.heap.size+1]? =some (.cells #[.int .i64 (ra:Int),.int .i64 (ra:Int),.int .i64 (rm:Int)] 164 (0,0))∧Below w2.heap.size w2 wx):=⟨_,rfl,(k7.block _ (lt_of_block B6) (by omega)).trans B6,B7,(HX.out.1.trans (k6.below HX.out.1.size (fun i hi=>by omega))).trans (k7.below (Nat.le_trans HX.out.1.size k6.size) (fun i hi=>by omega))⟩;have HB5:=qaa B5;clear B6 k6 B7 k7 B5;go_wp2_with (first
     |(refine wpList_store_row rfl 164 (.tmp 5) (.tmp 55) rfl w2.heap.size #[.int .i64 (rm:Int),.int .i64 (rm:Int),.int .i64 (re:Int)] rfl rfl 164 #[.int .i64 (ra:Int),.int .i64 (ra:Int),.int .i64 (rm:Int)] HX.out.2.1 HI.out rfl A1.out ?_)
     |(refine wpList_store_row rfl 164 (.tmp 6) (.tmp 56) rfl (w2.heap.size+1) #[.int .i64 (ra:Int),.int .i64 (ra:Int),.int .i64 (rm:Int)] rfl rfl 164 #[.int .i64 (rm:Int),.int .i64 (rm:Int),.int .i64 (re:Int)] HB5.out HI.out rfl A2.out ?_))
    obtain⟨wx,hwx,r1,r2,r3⟩:=HR.out;rw[←hwx];go_meet;exact⟨rm,re,ra,rm,.inr ⟨rfl,rfl,rfl,rfl⟩,r1,r2,r3⟩
   ·go_wp2
    go_meet;exact⟨ra,rm,rm,re,.inl ⟨rfl,rfl,rfl,rfl⟩,HX.out.2.1,HX.out.2.2,HX.out.1⟩
  case rest=>
   obtain⟨x,y,u,v,HC,HB4,HB5,HX4⟩:=hcut
   as_aux_lemma=>
    rename World=>wx
    have PX:=HG3.out.1.below HX4.out;have KX:Hid (Kept (fun b=>inP (.slice la L.length lc) pv (.slice oa O.length oc) (.slice (some ⟨rg,0,none⟩) R.length rc) b∨b=pb) w wx):=((Kept.of_below HX1.out).trans (HG3.out.2.mono (fun b hb=>.inl (.inr (.inr (.inr (by rw[hb];rfl))))))).trans (Kept.of_below HX4.out);have hxy:x<y∧y≤n∧u<v∧v≤n:=by rcases HC.out with h9|h9<;>omega
    have hll:=hp.ll;have hol:=hp.ol;obtain⟨lg,rfl,_⟩:=qan.gcell (PX.rws.own 0 (by simp)) (k:=x) (by show x<L.length;omega);obtain⟨og,rfl,_⟩:=qan.gcell (PX.rws.own 2 (by simp)) (k:=x) (by show x<O.length;omega);have hlc:L.length≤lc:=qgt (show wx.ownsRow base 3 1 (.slice (some ⟨lg,0,none⟩) L.length lc) L.length (qab L) from PX.rws.own 0 (by simp));obtain⟨z0,_,_,_⟩:=PX.cells;have t0:wx.cell? ⟨w2.heap.size,0,none⟩=some (.int .i64 (x:Int)):=by rw[cell_of_row _ _ _ _ _ _ HB4.out];rfl
    have t2:wx.cell? ⟨w2.heap.size,2,none⟩=some (.int .i64 (y:Int)):=by rw[cell_of_row _ _ _ _ _ _ HB4.out];rfl
    have a4:(x:Int)≤(y:Int):=by omega
    have a5:(y:Int)≤(lc:Int):=by omega
    have a6:(y:Int)≤(L.length:Int):=by omega
    have a7:¬lc-x=0:=by omega
    have a8:¬lc≤x:=by omega
    have HPX:=qaa PX;clear PX hll hol c0 c1 c2;go_wp2;go_quiet (fail);have PY:=qaa (HPX.out.below (show Below wx.heap.size wx (wx.drewN nq) from⟨rfl,rfl,rfl,Nat.le_refl _,fun _ _=>rfl⟩));have BY:Hid (Below wx.heap.size wx (wx.drewN nq)):=⟨rfl,rfl,rfl,Nat.le_refl _,fun _ _=>rfl⟩;have HS0:Hid (CuS n base pb (.slice (some ⟨lg,0,none⟩) L.length lc) pv og oc O.length (.slice (some ⟨rg,0,none⟩) R.length rc) L P O (R.set k ⟨ra,ra,re⟩) R.length x y wx 0 O (wx.drewN nq)):=⟨PY.out,hp.ol,fun s hs=>by rw[if_neg (by omega)],Kept.of_below BY.out,by omega⟩;have HLI:=qaa hp.li;have HPI:=qaa hp.pi;have HLL:=qaa hp.ll;have HOL:=qaa hp.ol;have b1:((y-x:Nat):Int)=((y-x:Nat):Int):=rfl;clear b1 PY BY z0 t0 t2;go_wp2;go_loopg [8,67] (y-x+1) (fun g s8 x67 wr=>∃(j:Nat) (O2:List Nat),x67=.int .i64 (j:Nat)∧Hid (CuS n base pb (.slice (some ⟨lg,0,none⟩) L.length lc) pv og oc O.length (.slice (some ⟨rg,0,none⟩) R.length rc) L P O (R.set k ⟨ra,ra,re⟩) R.length x y wx j O2 wr)∧y-x-j<g)
    case atStart=>exact⟨0,O,rfl,HS0,by omega⟩
    case round=>
     obtain⟨j,O2,rfl,S,hg⟩:=hrel;have HG:=qaa hg;clear hg HS0;have hjl:=S.out.jl;by_cases hj:x+j<y
     ·have hj':(j:Int)<((y-x:Nat):Int):=by omega
      obtain⟨n1,S1⟩:=S.out.next HLI.out HPI.out hj hxy.2.1;obtain⟨_,e0,cl⟩:=qan.gcell (S.out.pr.rws.own 0 (by simp)) (k:=x+j) (by show x+j<L.length;have:=HLL.out;omega);simp only[Option.some.injEq,Addr.mk.injEq,and_true] at e0;subst e0;obtain⟨m0,m1,m2,m3⟩:=S.out.pr.cells;obtain⟨o1,o2⟩:=qan.slot (S.out.pr.rws.own 2 (by simp)) (i:=gN L (x+j)) (by show gN L (x+j)<O2.length;have:=S.out.ln;omega);obtain⟨v1,y1⟩:∃v,wr.cell? ⟨og,gN L (x+j),none⟩=some v:=⟨_,o1⟩;have HS1:=qaa S1;clear o1 S1;generalize gN L (x+j)=s at *;have n2:(s:Int)<(O.length:Int):=by have:=HOL.out;omega
      have n3:(j:Int)<(y:Int)-(x:Int):=by omega
      have HRL:=qaa (show(R.set k ⟨ra,ra,re⟩).length=R.length from List.length_set);go_wp2;go_region;go_wp2;go_roundg (y-x-(j+1)+1)
      case measure=>have:=HG.out;omega
      case rel=>exact⟨j+1,_,by first|rfl|go_num|(congr 1;omega),HS1,by omega⟩
     ·have hj':¬(j:Int)<((y-x:Nat):Int):=by omega
      obtain rfl:j=y-x:=by omega
      as_aux_lemma=>
       have PR:=S.out.pr;have KP:=qaa S.out.kp;have hogl:og<wx.heap.size:=(World.ownsRow.lt (show wx.ownsRow base 3 1 (.slice (some ⟨og,0,none⟩) O.length oc) O.length (qab O) from HPX.out.rws.own 2 (by simp)) og rfl).2;have hbl4:=lt_of_block HB4.out;have hbl5:=lt_of_block HB5.out;have hw2x:=HX4.out.size;have hog2:og<w2.heap.size:=(World.ownsRow.lt (show w2.ownsRow base 3 1 (.slice (some ⟨og,0,none⟩) O.length oc) O.length (qab O) from HG3.out.1.rws.own 2 (by simp)) og rfl).2;have C4:=(S.out.kp.block (w2.heap.size) hbl4 (by omega)).trans HB4.out;have C5:=(S.out.kp.block (w2.heap.size+1) hbl5 (by omega)).trans HB5.out;have hk1:k<(R.set k ⟨ra,ra,re⟩).length:=by rw[List.length_set];exact hk
       obtain⟨m0,m1,m2,m3⟩:=PR.cells;have oR:wr.ownsRow base 164 3 (.slice (some ⟨rg,0,none⟩) R.length rc) R.length (qao (R.set k ⟨ra,ra,re⟩)):=by have:=PR.own;unfold qes at this;rw[List.length_set] at this;exact this
       have q0:∃v,wr.cell? ⟨rg,k*3,none⟩=some v:=⟨_,by rw[oR.cellAt _ (by omega),←Nat.add_zero (k*3),qaz _ k 0 hk1 (by decide)];rfl⟩;have q1:∃v,wr.cell? ⟨rg,k*3+1,none⟩=some v:=⟨_,by rw[oR.cellAt _ (by omega),qaz _ k 1 hk1 (by decide)];rfl⟩;have q2:∃v,wr.cell? ⟨rg,k*3+2,none⟩=some v:=⟨_,by rw[oR.cellAt _ (by omega),qaz _ k 2 hk1 (by decide)];rfl⟩;obtain⟨v0,q0⟩:=q0;obtain⟨v1,q1⟩:=q1;obtain⟨v2,q2⟩:=q2;have z0:=oR.frozenAt (k*3);have z1:=oR.frozenAt (k*3+1);have z2:=oR.frozenAt (k*3+2);have t0:wr.cell? ⟨w2.heap.size+1,0,none⟩=some (.int .i64 (u:Int)):=by rw[cell_of_row _ _ _ _ _ _ C5];rfl
       have t1:wr.cell? ⟨w2.heap.size+1,1,none⟩=some (.int .i64 (u:Int)):=by rw[cell_of_row _ _ _ _ _ _ C5];rfl
       have t2:wr.cell? ⟨w2.heap.size+1,2,none⟩=some (.int .i64 (v:Int)):=by rw[cell_of_row _ _ _ _ _ _ C5];rfl
       have HP5:=qaa (PR.room3 (show(R.set k ⟨ra,ra,re⟩).length=R.length from List.length_set) hk1 u u v);have HC4:=qaa C4;have hrl2:rg<wr.heap.size:=(World.ownsRow.lt oR rg rfl).2;have hrg2:rg<w2.heap.size:=(World.ownsRow.lt (show w2.ownsRow base 164 3 (.slice (some ⟨rg,0,none⟩) R.length rc) _ (qao _) from HG3.out.1.own) rg rfl).2;clear C4 C5 oR PR m0 m1 m2;go_wp2;go_region
       as_aux_lemma=>
        obtain⟨p5,k5⟩:=HP5.out;have y5:Below (((wr.setCell ⟨rg,k*3,none⟩ (.int .i64 (u:Int))).setCell ⟨rg,k*3+1,none⟩ (.int .i64 (u:Int))).setCell ⟨rg,k*3+2,none⟩ (.int .i64 (v:Int))).heap.size _ _:=(Below.refl _ (((wr.setCell ⟨rg,k*3,none⟩ (.int .i64 (u:Int))).setCell ⟨rg,k*3+1,none⟩ (.int .i64 (u:Int))).setCell ⟨rg,k*3+2,none⟩ (.int .i64 (v:Int)))).drew;have p6:=p5.below y5;have k6:=k5.trans (Kept.of_below y5);clear p5 k5 y5 HP5 q0 q1 q2 z0 z1 z2 t0 t1 t2 m3;generalize (((wr.setCell ⟨rg,k*3,none⟩ (.int .i64 (u:Int))).setCell ⟨rg,k*3+1,none⟩ (.int .i64 (u:Int))).setCell ⟨rg,k*3+2,none⟩ (.int .i64 (v:Int))).drew=w5 at *;rw[List.set_set] at p6;have C5:=(k6.block (w2.heap.size) (lt_of_block HC4.out) (by omega)).trans HC4.out;obtain⟨i16,hi16,hz160,hz161,hz162⟩:=info_parts Tryz.info164n;obtain⟨_,_,_,m3⟩:=p6.cells;have t0:w5.cell? ⟨w2.heap.size,0,none⟩=some (.int .i64 (x:Int)):=by rw[cell_of_row _ _ _ _ _ _ C5];rfl
        have t1:w5.cell? ⟨w2.heap.size,1,none⟩=some (.int .i64 (x:Int)):=by rw[cell_of_row _ _ _ _ _ _ C5];rfl
        have t2:w5.cell? ⟨w2.heap.size,2,none⟩=some (.int .i64 (y:Int)):=by rw[cell_of_row _ _ _ _ _ _ C5];rfl
        have l2:=lt_of_block C5;have lp:=lt_of_block p6.blk;have n1:¬w2.heap.size=w5.heap.size:=by omega
        have n2:¬pb=w5.heap.size:=by omega
        have XA:Hid (Below w5.heap.size w5 (w5.alloc (.cells #[.int .i64 (x:Int),.int .i64 (x:Int),.int .i64 (y:Int)] 164)).drew):=(al (Below.refl _ _) _).drew;have hrl5:(R.set k ⟨u,u,v⟩).length=R.length:=List.length_set;have OW:Hid ((w5.alloc (.cells #[.int .i64 (x:Int),.int .i64 (x:Int),.int .i64 (y:Int)] 164)).drew.ownsRow base 164 3 (.slice (some ⟨rg,0,none⟩) R.length rc) R.length (qao (R.set k ⟨u,u,v⟩))):=by have:=own_below p6.own XA.out;rw[hrl5] at this;exact this
        have HN:Hid (∀j z,(rmC ⟨x,x,y⟩)[j]? =some z→(w5.alloc (.cells #[.int .i64 (x:Int),.int .i64 (x:Int),.int .i64 (y:Int)] 164)).drew.cell? ((⟨w5.heap.size,0,none⟩:Addr).add j)=some z):=new3 w5 ⟨x,x,y⟩;have HSZ:Hid (base≤(w5.alloc (.cells #[.int .i64 (x:Int),.int .i64 (x:Int),.int .i64 (y:Int)] 164)).drew.heap.size):=Nat.le_trans p6.ge (Nat.le_trans (Nat.le_of_lt lp) XA.out.size);have HPU:Hid (∀(g cp:Nat) (w6:World),w6.ownsRow base 164 3 (.slice (some ⟨g,0,none⟩) (R.length+1) cp) (R.length+1) (qao (R.set k ⟨u,u,v⟩)++rmC ⟨x,x,y⟩)→(w5.alloc (.cells #[.int .i64 (x:Int),.int .i64 (x:Int),.int .i64 (y:Int)] 164)).drew.grownBy w6 (.slice (some ⟨rg,0,none⟩) R.length rc:Value).ownBlock→((.slice (some ⟨rg,0,none⟩) R.length rc:Value).ownBlock=some g∨g=(w5.alloc (.cells #[.int .i64 (x:Int),.int .i64 (x:Int),.int .i64 (y:Int)] 164)).drew.heap.size)→_):=fun g cp w6 h1 h2 h3=>p6.push XA.out (r:=⟨x,x,y⟩) (g:=g) (cp:=cp) (w6:=w6) (by rw[hrl5];exact h1) h2 h3
        rw[hrl5] at HPU;have HK6:=qaa k6;clear p6 k6 C5 HC4 hrl5;go_wp2;go_region_law
         ((refine step_append_lies _ (by rfl) (.tmp 94) (.tmp 96) 159 (by rfl) base 164 i16 (.agg #[.int .i64 0,.int .i64 0,.int .i64 0]) 3 24 Tryz.underlying159 hi16 hz160 hz161 hz162 rfl (by decide) _ R.length (qao (R.set k ⟨u,u,v⟩)) (by rfl) OW.out ⟨w5.heap.size,0,none⟩ 1 1 (rmC ⟨x,x,y⟩) (by rfl) (by rfl) HN.out (by simp[rmC,Value.oneCell']) (by decide) (by unfold maxLen;omega) (by omega) HSZ.out _ rfl ?_;intro g6 cap6 w6 h1 h2 h3 h4;obtain⟨b6,PU⟩:=HPU.out g6 cap6 w6 h1 h2 h3;have d1:w6.cell? ⟨pb,3,none⟩=some (.slice (some ⟨rg,0,none⟩) R.length rc):=(by rw[cell_of_row _ _ _ _ _ _ b6];rfl);have f1:=frozen_of_row _ _ 3 _ _ b6;have PU:=qaa PU;clear h1 h2 h3 h4 b6))
        all_goals
         clear m3 d1 f1;go_wp2;refine bodyPost_end (v:=.tuple #[]) (results_none rfl _ _ _) rfl ?_;obtain⟨u1,u2,u3⟩:=PU.out;refine⟨rfl,_,_,_,u1,.inr ⟨by rw[HGR.out];show rm<re;omega,x,y,u,v,by rw[HGR.out];exact HC.out,S.out.ln,fun s hs=>?_,rfl⟩,?_,fun b hb=>?_⟩
         ·rw[S.out.vl s hs,show x+(y-x)=y by omega]
         ·exact((KX.out.trans (KP.out.mono (fun b hb=>.inl (.inr (.inr (.inl (by rw[hb];rfl))))))).trans (HK6.out.mono (fun b hb=>.inl (.inr (.inr (.inr (by rw[hb];rfl))))))).trans u2
         ·rcases u3 b hb with h9|h9
          ·exact .inl h9
          ·exact .inr (Nat.le_trans (Nat.le_trans KX.out.size (Nat.le_trans KP.out.size HK6.out.size)) h9)
end Go.Proofs.YtdgoilkgplnhfaaGreat

