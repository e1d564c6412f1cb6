/-
  What lift keeps while it goes on. No condition.
-/
import Derived.Test.YtnddhkhmbjeefaaC14
namespace Go.Proofs.Ytnddhkhmbjeefaa
open Go.RowKit Go.Lib Go.Maps
structure FrI (S:List Int) (w wr:World) (B:Nat) (a:LfA) (X:List LA) (b:LA) (T:List Lay) (fb:Nat) (FR:List RD) (fv:Value) (Y:List Lay) (K:Nat→Nat→Option RD) (P Q:Nat→Nat→Prop):Prop where
 lf:LfS wr B a X b Y K P Q
 lp:LfP S (layL X) b.lay T Y K
 fbk:wr.heap[fb]? =some (.cells #[.int .i64 b.lv,fv] 105 (0,0))
 fow:wr.ownsRow w.heap.size 102 1 fv FR.length (rdC FR)
 frw:∀j (h:j<FR.length),RwB wr (FR[j]).b (FR[j]).r∧RdF FR[j]∧∃f,(FR[j]).r=rlN f (szL S b.lv).toNat∧SplOk S (layL X) b.lay T Y 0 (j:Int) f
 dis:¬LfF a X.length P fb∧∀z,fv.ownBlock=some z→¬LfF a X.length P z
 hP:∀z,LfF a X.length P z→w.heap.size≤z
 bel:Below w.heap.size w wr
 hfb:w.heap.size≤fb
section
variable {S:List Int} {w wr w':World} {B:Nat} {a:LfA} {X:List LA} {b:LA} {T:List Lay} {fb:Nat} {FR:List RD} {fv:Value} {Y:List Lay} {K:Nat→Nat→Option RD} {P Q:Nat→Nat→Prop}
theorem FrI.below (h:FrI S w wr B a X b T fb FR fv Y K P Q) (x:Below wr.heap.size wr w'):FrI S w w' B a X b T fb FR fv Y K P Q:=
 ⟨h.lf.below x,h.lp,(x.block _ (lt_of_block h.fbk)).trans h.fbk,own_below h.fow x,fun j hj=>⟨(h.frw j hj).1.below x,(h.frw j hj).2⟩,h.dis,h.hP,bt h.bel x (Nat.le_refl _),h.hfb⟩
theorem FrI.cell (h:FrI S w wr B a X b T fb FR fv Y K P Q):wr.cell? ⟨fb,1,none⟩=some fv∧wr.cell? ⟨fb,0,none⟩=some (.int .i64 b.lv):=by
 refine⟨?_,?_⟩<;>(rw[cell_of_row wr fb _ _ _ _ h.fbk];rfl)
theorem FrI.push (h:FrI S w wr B a X b T fb FR fv Y K P Q) {w1 w2 w3 w4:World} {x:RD} {f:Nat→Int} {Y':List Lay} {K':Nat→Nat→Option RD} {P' Q':Nat→Nat→Prop} (k1:Kept (LfF a X.length P) wr w1) (lf1:LfS w1 B a X b Y' K' P' Q') (lp1:LfP S (layL X) b.lay T Y' K') (ex:ExtL Y Y') (pn:∀k,LfF a X.length P' k→LfF a X.length P k∨wr.heap.size≤k) (rx:RwB w1 x.b x.r) (fx:RdF x) (hx:x.r=rlN f (szL S b.lv).toNat) (sp:SplOk S (layL X) b.lay T Y' 0 (FR.length:Int) f)
 (x2:Below w1.heap.size w1 w2) {fv':Value} (h3:w3.ownsRow w.heap.size 102 1 fv' (FR.length+1) (rdC FR++[x.v])) (g3:w2.grownBy w3 fv.ownBlock) (l3:∀z,fv'.ownBlock=some z→fv.ownBlock=some z∨w2.heap.size≤z) (e4:w4=w3.setCell ⟨fb,1,none⟩ fv') (hB:B≤w.heap.size):
 FrI S w w4 B a X b T fb (FR++[x]) fv' Y' K' P' Q':=by
 subst e4
 have hws:=h.bel.size
 have hfbl:=lt_of_block h.fbk
 have nr1:=h.lf.nor
 have b1:=(k1.block fb hfbl h.dis.1).trans h.fbk
 have o1:=own_kept h.fow k1 (fun z hz hF=>h.dis.2 z hz hF)
 have b2:=(x2.block fb (lt_of_block b1)).trans b1
 have o2:=own_below o1 x2
 have lf2:=lf1.below x2
 have k3:Kept (fun z=>fv.ownBlock=some z) w2 w3:=kept_of_grown g3
 have hkt:∀ {z cs tt fr},fv.ownBlock=some z→w2.heap[z]? =some (.cells cs tt fr)→tt=102:=fun {z cs tt fr} hz hc=>by
  obtain⟨cs',h5⟩:=own_ty o2 z hz
  rw[hc] at h5
  simp at h5
  exact h5.2.1
 have hfvl:∀z,fv.ownBlock=some z→z<wr.heap.size:=fun z hz=>(World.ownsRow.lt h.fow z hz).2
 have b3:=(k3.block fb (lt_of_block b2) (fun hz=>absurd (hkt hz b2) (by decide))).trans b2
 have k4:Kept (fun z=>z=fb) w3 (w3.setCell ⟨fb,1,none⟩ fv'):=Kept.setCell (F:=fun z=>z=fb) (p:=⟨fb,1,none⟩) (Kept.refl _ _) rfl _
 have b4:(w3.setCell ⟨fb,1,none⟩ fv').heap[fb]? =some (.cells #[.int .i64 b.lv,fv'] 105 (0,0)):=by
  have:=block_setCell b3 1 fv'
  simpa using this
 have kk:Kept (fun z=>fv.ownBlock=some z∨z=fb) w2 (w3.setCell ⟨fb,1,none⟩ fv'):=(k3.mono (fun _ h=>.inl h)).trans (k4.mono (fun _ h=>.inr h))
 have nr:NoRun w2 (fun z=>fv.ownBlock=some z∨z=fb):=fun z hz cs e=>by
  rcases hz with hz|hz
  ·exact absurd (hkt hz e) (by decide)
  ·subst hz;exact ty_ne b2 e (by decide) rfl
 have hdis:∀z,(fv.ownBlock=some z∨z=fb)→z<wr.heap.size∧¬LfF a X.length P z:=fun z hz=>by
  rcases hz with hz|hz
  ·exact⟨hfvl z hz,h.dis.2 z hz⟩
  ·subst hz;exact⟨hfbl,h.dis.1⟩
 have hdis':∀z,(fv.ownBlock=some z∨z=fb)→¬LfF a X.length P' z:=fun z hz hF=>by
  obtain⟨h1,h2⟩:=hdis z hz
  rcases pn z hF with h3|h3
  ·exact h2 h3
  ·omega
 obtain⟨cs,kb1,_⟩:=lf2.kno
 obtain⟨ds,mb1,_⟩:=lf2.mad
 have lf4:=lf2.kept kk (fun z hz=>by
  refine⟨?_,hdis' z hz,fun e=>?_,fun e=>?_,fun e=>?_⟩
  ·rcases hz with hz|hz
   ·have:=(World.ownsRow.lt h.fow z hz).1
    omega
   ·have:=h.hfb
    omega
  ·subst e
   rcases hz with hz|hz
   ·exact absurd (hkt hz lf2.blk) (by decide)
   ·exact ty_ne lf2.blk b2 (by decide) hz
  ·subst e
   rcases hz with hz|hz
   ·exact absurd (hkt hz kb1) (by decide)
   ·exact ty_ne kb1 b2 (by decide) hz
  ·subst e
   rcases hz with hz|hz
   ·exact absurd (hkt hz mb1) (by decide)
   ·exact ty_ne mb1 b2 (by decide) hz) nr
 have hs1:=k1.size
 have hs2:=x2.size
 refine⟨lf4,lp1,b4,?_,fun j hj=>?_,⟨fun hF=>hdis' fb (.inr rfl) hF,fun z hz hF=>?_⟩,fun z hz=>?_,?_,h.hfb⟩
 ·rw[List.length_append,List.length_singleton,show rdC (FR++[x])=rdC FR++[x.v] by simp[rdC]]
  exact own_kept h3 k4 (fun z hz e=>by
   obtain⟨cs',h5⟩:=own_ty h3 _ hz
   exact ty_ne h5 b3 (by decide) e)
 ·rw[List.length_append,List.length_singleton] at hj
  by_cases e:j<FR.length
  ·rw[List.getElem_append_left e]
   obtain⟨r1,r2,f',r3,r4⟩:=h.frw j e
   exact⟨((r1.keptT k1 nr1).below x2).keptT kk nr,r2,f',r3,r4.ext h.lp.inv ex⟩
  ·have e2:j=FR.length:=by omega
   subst e2
   have e3:(FR++[x])[FR.length]'(by simp)=x:=by simp
   rw[e3]
   exact⟨(rx.below x2).keptT kk nr,fx,f,hx,sp⟩
 ·rcases l3 z hz with h5|h5
  ·exact hdis' z (.inl h5) hF
  ·have:=lf2.size z hF
   omega
 ·rcases pn z hz with h5|h5
  ·exact h.hP z h5
  ·omega
 ·have e1:Below w.heap.size w w1:=h.bel.trans (k1.below hws (fun z hz=>h.hP z hz))
  have e2:Below w.heap.size w w2:=bt e1 x2 (Nat.le_refl _)
  refine e2.trans (kk.below (by omega) (fun z hz=>?_))
  rcases hz with hz|hz
  ·exact(World.ownsRow.lt h.fow z hz).1
  ·rw[hz];exact h.hfb
end
section
variable {P:Program} {ops:Array Oper} {Q:Exit→Act→World→Prop} {md:Region.Mode} {S:World→Prop} {z:Nat}
theorem UntH.two {i j n:Nat} {oi oj:Oper} {done:Array Bool} {a:Act} {w:World} (hr:Region.ready md ops done=[i,j]) (hi:ops[i]? =some oi) (hj:ops[j]? =some oj)
 (h1:∀K':Act→World→Prop,Shut (∀a w,S w→UntH P md ops Q S z n (done.setIfInBounds i true) a w→K' a w)→if Region.wanted oi (yielded ops a.tmps)=true then Oper.wp P oi a w K' Q else K' (a.put oi.dst undef) w)
 (h2:∀K':Act→World→Prop,Shut (∀a w,S w→UntH P md ops Q S z n (done.setIfInBounds j true) a w→K' a w)→if Region.wanted oj (yielded ops a.tmps)=true then Oper.wp P oj a w K' Q else K' (a.put oj.dst undef) w):UntH P md ops Q S z (n+1) done a w:=
 ⟨fun h0=>(by rw[hr] at h0;cases h0),fun k hk=>by
   rw[hr] at hk
   rcases List.mem_cons.1 hk with rfl|hk
   ·exact wpOp_step hi (fun K' hK=>h1 K' (fun a w h3 h4=>hK a w ⟨fun _=>h3,h4⟩))
   ·obtain rfl:=List.mem_singleton.1 hk
    exact wpOp_step hj (fun K' hK=>h2 K' (fun a w h3 h4=>hK a w ⟨fun _=>h3,h4⟩))⟩
end
theorem RowsB.keptN {w w':World} {B:Nat} {x:LA} {F:Nat→Prop} (h:RowsB w B x) (hk:Kept F w w') (hF:∀k,F k→∃cs tt,w.heap[k]? =some (.cells cs tt (0,0))∧tt≠102∧tt≠134):RowsB w' B x:=by
 obtain⟨cs,h1,h2⟩:=h.blk
 refine⟨⟨cs,(hk.block _ (lt_of_block h1) (fun e=>?_)).trans h1,h2⟩,h.lt,fun y hy=>⟨(h.row y hy).1.kept hk (fun e=>?_),(h.row y hy).2⟩,h.few⟩
 ·obtain⟨cs',tt,h3,h4,_⟩:=hF _ e
  exact ty_ne h3 h1 h4 rfl
 ·obtain⟨cs',tt,h3,_,h4⟩:=hF _ e
  obtain⟨cs2,h5,_⟩:=(h.row y hy).1
  exact ty_ne h3 h5 h4 rfl
theorem list_of {α:Type} {p:Nat→α→Prop}:∀n,(∀i,i<n→∃x,p i x)→∃l:List α,l.length=n∧∀i (h:i<l.length),p i l[i]
 |0,_=>⟨[],rfl,fun i h=>by cases h⟩
 |n+1,h=>by
  obtain⟨l,h1,h2⟩:=list_of n (fun i hi=>h i (by omega))
  obtain⟨x,hx⟩:=h n (by omega)
  refine⟨l++[x],by simp[h1],fun i hi=>?_⟩
  rw[List.length_append,List.length_singleton] at hi
  by_cases e:i<l.length
  ·rw[List.getElem_append_left e];exact h2 i e
  ·have e2:i=l.length:=by omega
   have e3:(l++[x])[i]'(by rw[List.length_append,List.length_singleton];omega)=x:=by
    subst e2
    simp
   rw[e3,e2,h1]
   exact hx
structure TbL (w:World) (t:Nat) (y:Lay) (x:LA):Prop where
 cell:w.cell? ⟨t,0,none⟩=some (.slice (some ⟨x.rb,0,none⟩) x.Rs.length x.rc)
 lay:x.lay=y
 rows:RowsB w w.heap.size x
theorem TbL.below {w w':World} {t:Nat} {y:Lay} {x:LA} (h:TbL w t y x) (hb:Below w.heap.size w w'):TbL w' t y x:=
 ⟨(hb.cell (p:=⟨t,0,none⟩) (World.block_lt_of_cell? _ _ h.cell)).trans h.cell,h.lay,(h.rows.below hb).mono hb.size⟩
theorem TbAt.layer {w:World} {t:Nat} {T:List (List Rn)} {P Q:Nat→Prop} (h:TbAt w t T P Q) (h0:0<T.length) (hf:T.length≤1073741824) (lv:Int):∃x,TbL w t (lv,T) x:=by
 obtain⟨Rs,rv,mb,kv,kn,kx,h1,rfl,_⟩:=h
 have hl:(rdR Rs).length=Rs.length:=by simp[rdR]
 rcases h1.row.2 with⟨_,h2⟩|⟨g,cap,cur,rfl,hb,hg,g1,g2,g3,g4⟩
 ·omega
 ·refine⟨⟨lv,g,cap,Rs⟩,⟨h1.cells.1,rfl,⟨⟨cur,hg,fun i hi=>?_⟩,lt_of_block hg,fun y hy=>⟨h1.rws y hy,h1.fit y hy,(h1.rws y hy).lt⟩,by show Rs.length≤1073741824;omega⟩⟩⟩
  have:=congrArg (fun l=>l[i]?) g4
  simp only[Nat.mul_one] at this
  rw[List.getElem?_take_of_lt (show i<Rs.length from hi),Array.getElem?_toList] at this
  rw[this,rdC,List.getElem?_map,List.getElem?_eq_getElem (show i<Rs.length from hi)]
  rfl
theorem FrI.layer {S:List Int} {w wr:World} {B:Nat} {a:LfA} {X:List LA} {b:LA} {T:List Lay} {fb:Nat} {FR:List RD} {fv:Value} {Y:List Lay} {K:Nat→Nat→Option RD} {P Q:Nat→Nat→Prop} (h:FrI S w wr B a X b T fb FR fv Y K P Q) (h0:0<FR.length) (hf:FR.length≤1073741824):∃g c,fv=.slice (some ⟨g,0,none⟩) FR.length c∧RowsB wr wr.heap.size ⟨b.lv,g,c,FR⟩:=by
 rcases h.fow.2 with⟨_,h2⟩|⟨g,cap,cur,rfl,hb,hg,g1,g2,g3,g4⟩
 ·omega
 ·refine⟨g,cap,rfl,⟨⟨cur,hg,fun i hi=>?_⟩,lt_of_block hg,fun y hy=>?_,hf⟩⟩
  ·have:=congrArg (fun l=>l[i]?) g4
   simp only[Nat.mul_one] at this
   rw[List.getElem?_take_of_lt (show i<FR.length from hi),Array.getElem?_toList] at this
   rw[this,rdC,List.getElem?_map,List.getElem?_eq_getElem (show i<FR.length from hi)]
   rfl
  ·obtain⟨j,hj,rfl⟩:=List.getElem_of_mem hy
   exact⟨(h.frw j hj).1,(h.frw j hj).2.1,(h.frw j hj).1.lt⟩
end Go.Proofs.Ytnddhkhmbjeefaa

