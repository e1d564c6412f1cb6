/-
  Layers in memory; the program's lifting in memory. No condition.
-/
import Derived.Test.YtnddhkhmbjeefaaC08
import Derived.Test.YtnddhkhmbjeefaaC10
import Derived.Deep.OwnRows
namespace Go.Proofs.Ytnddhkhmbjeefaa
open Go.RowKit Go.Lib Go.Maps
structure LA where
 lv:Int
 rb:Nat
 rc:Nat
 Rs:List RD
def LA.lay (x:LA):Lay:=(x.lv,rdR x.Rs)
abbrev layL (Ls:List LA):List Lay:=Ls.map LA.lay
structure RowsB (w:World) (B:Nat) (x:LA):Prop where
 blk:∃cs,w.heap[x.rb]? =some (.cells cs 102 (0,0))∧∀i (h:i<x.Rs.length),cs[i]? =some (x.Rs[i]).v
 lt:x.rb<B
 row:∀y∈x.Rs,RwB w y.b y.r∧RdF y∧y.b<B
 few:x.Rs.length≤1073741824
structure LaysAt (w:World) (B b o:Nat) (Ls:List LA):Prop where
 lt:b<B
 cl:∀i (h:i<Ls.length),w.cell? ⟨b,(o+i)*2,none⟩=some (.int .i64 (Ls[i]).lv)∧w.cell? ⟨b,(o+i)*2+1,none⟩=some (.slice (some ⟨(Ls[i]).rb,0,none⟩) (Ls[i]).Rs.length (Ls[i]).rc)
 ly:∀x∈Ls,RowsB w B x
section
variable {w w':World} {B b o:Nat} {x:LA} {Ls:List LA}
theorem RowsB.below (h:RowsB w B x) (hb:Below B w w'):RowsB w' B x:=by
 obtain⟨cs,h1,h2⟩:=h.blk
 exact⟨⟨cs,(hb.block _ h.lt).trans h1,h2⟩,h.lt,fun y hy=>⟨(h.row y hy).1.belowN hb (h.row y hy).2.2,(h.row y hy).2⟩,h.few⟩
theorem RowsB.mono (h:RowsB w B x) {B':Nat} (hB:B≤B'):RowsB w B' x:=⟨h.blk,by have:=h.lt;omega,fun y hy=>⟨(h.row y hy).1,(h.row y hy).2.1,by have:=(h.row y hy).2.2;omega⟩,h.few⟩
theorem RowsB.cell (h:RowsB w B x) {i:Nat} (hi:i<x.Rs.length):w.cell? ⟨x.rb,i,none⟩=some (.slice (some ⟨(x.Rs[i]).b,0,none⟩) (x.Rs[i]).r.length (x.Rs[i]).c):=by
 obtain⟨cs,h1,h2⟩:=h.blk
 rw[cell_of_row w x.rb _ _ _ _ h1,h2 i hi]
 rfl
theorem LaysAt.below (h:LaysAt w B b o Ls) (hb:Below B w w'):LaysAt w' B b o Ls:=
 ⟨h.lt,fun i hi=>⟨(hb.cell (p:=⟨b,_,none⟩) h.lt).trans (h.cl i hi).1,(hb.cell (p:=⟨b,_,none⟩) h.lt).trans (h.cl i hi).2⟩,fun x hx=>(h.ly x hx).below hb⟩
theorem LaysAt.mono (h:LaysAt w B b o Ls) {B':Nat} (hB:B≤B'):LaysAt w B' b o Ls:=⟨by have:=h.lt;omega,h.cl,fun x hx=>(h.ly x hx).mono hB⟩
theorem LaysAt.part {A C D:List LA} (h:LaysAt w B b o (A++C++D)):LaysAt w B b (o+A.length) C:=by
 refine⟨h.lt,fun i hi=>?_,fun x hx=>h.ly x (by simp[hx])⟩
 have:=h.cl (A.length+i) (by simp;omega)
 have e:(A++C++D)[A.length+i]'(by simp;omega)=C[i]:=by
  rw[List.getElem_append_left (by simp;omega),List.getElem_append_right (by omega)]
  simp
 rw[e] at this
 rw[Nat.add_assoc]
 exact this
end
def KnB (w:World) (kb:Nat) (n:Nat) (K:Nat→Option RD):Prop:=∃cs,w.heap[kb]? =some (.cells cs 102 (0,0))∧cs.size=n∧∀i,i<n→cs[i]? =some (match K i with|none=>.slice none 0 0|some x=>x.v)
section
variable {w w':World} {kb n:Nat} {K:Nat→Option RD} {F:Nat→Prop}
theorem KnB.lt (h:KnB w kb n K):kb<w.heap.size:=by
 obtain⟨cs,h1,_⟩:=h
 exact lt_of_block h1
theorem KnB.kept (h:KnB w kb n K) (hk:Kept F w w') (hF:¬F kb):KnB w' kb n K:=by
 have hl:=h.lt
 obtain⟨cs,h1,h2⟩:=h
 exact⟨cs,(hk.block kb hl hF).trans h1,h2⟩
theorem KnB.below (h:KnB w kb n K) (x:Below w.heap.size w w'):KnB w' kb n K:=h.kept (F:=fun _=>False) (Kept.of_below x) (fun h=>h)
theorem KnB.cell (h:KnB w kb n K) {i:Nat} (hi:i<n):w.cell? ⟨kb,i,none⟩=some (match K i with|none=>.slice none 0 0|some x=>x.v)∧w.frozen? ⟨kb,i,none⟩=false:=by
 obtain⟨cs,h1,_,h2⟩:=h
 rw[cell_of_row w kb _ _ _ _ h1]
 exact⟨h2 i hi,frozen_of_row w kb i _ _ h1⟩
def setK (K:Nat→Option RD) (t:Nat) (x:RD):Nat→Option RD:=fun i=>if i=t then some x else K i
theorem KnB.set (h:KnB w kb n K) {t:Nat} (ht:t<n) (x:RD):KnB (w.setCell ⟨kb,t,none⟩ x.v) kb n (setK K t x):=by
 obtain⟨cs,h1,h2,h3⟩:=h
 refine⟨_,block_setCell h1 _ _,by simp[h2],fun i hi=>?_⟩
 by_cases e:i=t
 ·subst e
  simp[setK,Array.set!,Array.setIfInBounds,h2,hi]
 ·simp only[setK,if_neg e]
  rw[←h3 i hi]
  simp[Array.set!,Array.setIfInBounds]
  split
  ·rw[Array.getElem?_set_ne]
   exact fun h=>e h.symm
  ·rfl
theorem KnB.ty (h:KnB w kb n K):∃cs,w.heap[kb]? =some (.cells cs 102 (0,0)):=by
 obtain⟨cs,h1,_⟩:=h
 exact⟨cs,h1⟩
end
structure LfA where
 l:Nat
 ob:Nat
 oo:Nat
 oc:Nat
 kb:Nat
 kc:Nat
 mb:Nat
 mc:Nat
 tb:Nat→Nat
 kn:Nat→Nat
 kk:Nat→Nat
structure LfS (w:World) (B:Nat) (a:LfA) (X:List LA) (b:LA) (Y:List Lay) (K:Nat→Nat→Option RD) (P Q:Nat→Nat→Prop):Prop where
 blk:w.heap[a.l]? =some (.cells #[.slice (some ⟨a.ob,a.oo*2,none⟩) (X.length+1) a.oc,.slice (some ⟨a.kb,0,none⟩) X.length a.kc,.slice (some ⟨a.mb,0,none⟩) X.length a.mc] 117 (0,0))
 old:LaysAt w B a.ob a.oo (X++[b])
 kno:∃cs,w.heap[a.kb]? =some (.cells cs 98 (0,0))∧∀i (h:i<X.length),cs[i]? =some (.slice (some ⟨a.kn i,0,none⟩) (X[i]).Rs.length (a.kk i))
 knb:∀i (h:i<X.length),KnB w (a.kn i) (X[i]).Rs.length (K i)
 knr:∀i t x,i<X.length→K i t=some x→RwB w x.b x.r∧RdF x
 mad:∃cs,w.heap[a.mb]? =some (.cells cs 113 (0,0))∧∀i,i<X.length→cs[i]? =some (.pointer (some ⟨a.tb i,0,none⟩))
 tab:∀i,i<X.length→TbAt w (a.tb i) (Y.getD i (0,[])).2 (P i) (Q i)
 yl:Y.length=X.length
 apt:∀i j,i<X.length→j<X.length→i≠j→∀k,P i k→¬P j k
 kpt:∀i j,i<X.length→j<X.length→¬P j (a.kn i)
 kin:∀i j,i<X.length→j<X.length→a.kn i=a.kn j→i=j
 fx:∀j,j<X.length→¬P j a.l∧¬P j a.kb∧¬P j a.mb
 hi:∀j k,j<X.length→P j k→B≤k
 hk:∀j,j<X.length→B≤a.kn j
 hB:B≤w.heap.size
 hl:B≤a.l∧B≤a.kb∧B≤a.mb
def LfF (a:LfA) (n:Nat) (P:Nat→Nat→Prop):Nat→Prop:=fun k=>∃j,j<n∧(P j k∨k=a.kn j)
section
variable {w w':World} {B:Nat} {a:LfA} {X:List LA} {b:LA} {Y:List Lay} {K:Nat→Nat→Option RD} {P Q:Nat→Nat→Prop} {F:Nat→Prop}
theorem LfS.nor (h:LfS w B a X b Y K P Q):NoRun w (LfF a X.length P):=fun k hk cs e=>by
 obtain⟨j,hj,h1|h1⟩:=hk
 ·exact(h.tab j hj).nr k h1 cs e
 ·subst h1
  obtain⟨cs',h2⟩:=(h.knb j hj).ty
  exact ty_ne h2 e (by decide) rfl
theorem LfS.below (h:LfS w B a X b Y K P Q) (x:Below w.heap.size w w'):LfS w' B a X b Y K P Q:=by
 obtain⟨cs,k1,k2⟩:=h.kno
 obtain⟨ds,m1,m2⟩:=h.mad
 exact⟨(x.block _ (lt_of_block h.blk)).trans h.blk,h.old.below (x.mono h.hB),⟨cs,(x.block _ (lt_of_block k1)).trans k1,k2⟩,fun i hi=>(h.knb i hi).below x,fun i t y hi hy=>⟨(h.knr i t y hi hy).1.below x,(h.knr i t y hi hy).2⟩,⟨ds,(x.block _ (lt_of_block m1)).trans m1,m2⟩,fun i hi=>(h.tab i hi).below x,h.yl,h.apt,h.kpt,h.kin,h.fx,h.hi,h.hk,Nat.le_trans h.hB x.size,h.hl⟩
theorem LfS.cells (h:LfS w B a X b Y K P Q):w.cell? ⟨a.l,0,none⟩=some (.slice (some ⟨a.ob,a.oo*2,none⟩) (X.length+1) a.oc)∧w.cell? ⟨a.l,1,none⟩=some (.slice (some ⟨a.kb,0,none⟩) X.length a.kc)∧w.cell? ⟨a.l,2,none⟩=some (.slice (some ⟨a.mb,0,none⟩) X.length a.mc):=by
 refine⟨?_,?_,?_⟩<;>(rw[cell_of_row w a.l _ _ _ _ h.blk];rfl)
theorem LfS.kncell (h:LfS w B a X b Y K P Q) {i:Nat} (hi:i<X.length):w.cell? ⟨a.kb,i,none⟩=some (.slice (some ⟨a.kn i,0,none⟩) (X[i]).Rs.length (a.kk i))∧w.cell? ⟨a.mb,i,none⟩=some (.pointer (some ⟨a.tb i,0,none⟩)):=by
 obtain⟨cs,k1,k2⟩:=h.kno
 obtain⟨ds,m1,m2⟩:=h.mad
 rw[cell_of_row w a.kb _ _ _ _ k1,cell_of_row w a.mb _ _ _ _ m1]
 exact⟨k2 i hi,m2 i hi⟩
theorem LfS.size (h:LfS w B a X b Y K P Q):∀k,LfF a X.length P k→k<w.heap.size:=fun k hk=>by
 obtain⟨j,hj,h1|h1⟩:=hk
 ·exact(h.tab j hj).plt h1
 ·rw[h1];exact(h.knb j hj).lt
theorem LfS.kept (h:LfS w B a X b Y K P Q) (hk:Kept F w w') (hF:∀k,F k→B≤k∧¬LfF a X.length P k∧k≠a.l∧k≠a.kb∧k≠a.mb) (nr:NoRun w F):LfS w' B a X b Y K P Q:=by
 obtain⟨cs,k1,k2⟩:=h.kno
 obtain⟨ds,m1,m2⟩:=h.mad
 have bel:Below B w w':=hk.below h.hB (fun k hk=>(hF k hk).1)
 exact⟨(hk.block _ (lt_of_block h.blk) (fun e=>(hF _ e).2.2.1 rfl)).trans h.blk,h.old.below bel,⟨cs,(hk.block _ (lt_of_block k1) (fun e=>(hF _ e).2.2.2.1 rfl)).trans k1,k2⟩,fun j hj=>(h.knb j hj).kept hk (fun e=>(hF _ e).2.1 ⟨j,hj,.inr rfl⟩),fun j t y hj hy=>⟨(h.knr j t y hj hy).1.keptT hk nr,(h.knr j t y hj hy).2⟩,⟨ds,(hk.block _ (lt_of_block m1) (fun e=>(hF _ e).2.2.2.2 rfl)).trans m1,m2⟩,fun j hj=>(h.tab j hj).kept hk (fun k hp e=>(hF k e).2.1 ⟨j,hj,.inl hp⟩) nr,h.yl,h.apt,h.kpt,h.kin,h.fx,h.hi,h.hk,Nat.le_trans h.hB hk.size,h.hl⟩
theorem LfS.oldcell (h:LfS w B a X b Y K P Q) {i:Nat} {x:LA} (hx:(X++[b])[i]? =some x):w.cell? ⟨a.ob,a.oo*2+i*2+1,none⟩=some (.slice (some ⟨x.rb,0,none⟩) x.Rs.length x.rc)∧w.cell? ⟨a.ob,a.oo*2+i*2,none⟩=some (.int .i64 x.lv)∧RowsB w B x:=by
 have hi:i<(X++[b]).length:=by
  rcases Nat.lt_or_ge i (X++[b]).length with h1|h1
  ·exact h1
  ·rw[List.getElem?_eq_none h1] at hx;cases hx
 have c:=h.old.cl i hi
 rw[List.getElem?_eq_getElem hi] at hx
 injection hx with hx
 rw[hx,Nat.add_mul] at c
 exact⟨c.2,c.1,hx▸h.old.ly _ (List.getElem_mem hi)⟩
theorem LfS.turn (h:LfS w B a X b Y K P Q) {i:Nat} (hi:i<X.length) {bb:Nat} (hbb:∀j,j<X.length→¬P j bb∧a.kn j≠bb) (hbo:B≤bb) (hbt:∃cs,w.heap[bb]? =some (.cells cs 102 (0,0))) (hk:Kept (fun k=>P i k∨k=bb) w w') {T:List (List Rn)} {P' Q':Nat→Prop} (ht:TbAt w' (a.tb i) T P' Q') (hp:∀k,P' k→P i k∨w.heap.size≤k):
 LfS w' B a X b (Y.set i ((Y.getD i (0,[])).1,T)) K (fun j=>if j=i then P' else P j) (fun j=>if j=i then Q' else Q j):=by
 obtain⟨cs,k1,k2⟩:=h.kno
 obtain⟨ds,m1,m2⟩:=h.mad
 obtain⟨bs,hbs⟩:=hbt
 have nr:NoRun w (fun k=>P i k∨k=bb):=fun k hk cs e=>by
  rcases hk with hk|hk
  ·exact(h.tab i hi).nr k hk cs e
  ·subst hk;exact ty_ne hbs e (by decide) rfl
 have bel:Below B w w':=hk.below h.hB (fun k hk=>by
  rcases hk with hk|hk
  ·exact h.hi i k hi hk
  ·omega)
 have fx:=h.fx i hi
 refine⟨(hk.block _ (lt_of_block h.blk) (fun e=>e.elim fx.1 (fun e=>ty_ne h.blk hbs (by decide) e))).trans h.blk,h.old.below bel,⟨cs,(hk.block _ (lt_of_block k1) (fun e=>e.elim fx.2.1 (fun e=>ty_ne k1 hbs (by decide) e))).trans k1,k2⟩,fun j hj=>(h.knb j hj).kept hk (fun e=>e.elim (h.kpt j i hj hi) (hbb j hj).2),fun j t y hj hy=>⟨(h.knr j t y hj hy).1.keptT hk nr,(h.knr j t y hj hy).2⟩,⟨ds,(hk.block _ (lt_of_block m1) (fun e=>e.elim fx.2.2 (fun e=>ty_ne m1 hbs (by decide) e))).trans m1,m2⟩,fun j hj=>?_,by rw[List.length_set];exact h.yl,fun j1 j2 h1 h2 hne k hp1 hp2=>?_,fun j1 j2 h1 h2 hp1=>?_,h.kin,fun j hj=>?_,fun j k hj hp1=>?_,h.hk,Nat.le_trans h.hB hk.size,h.hl⟩
 ·by_cases e:j=i
  ·subst e
   simp only[↓reduceIte]
   rw[List.getD_eq_getElem?_getD,List.getElem?_set_self (by rw[h.yl];exact hj)]
   exact ht
  ·simp only[if_neg e]
   rw[List.getD_eq_getElem?_getD,List.getElem?_set_ne (fun h=>e h.symm),←List.getD_eq_getElem?_getD]
   exact(h.tab j hj).kept hk (fun k hp1 e1=>e1.elim (h.apt j i hj hi e k hp1) (fun e2=>(hbb j hj).1 (e2▸hp1))) nr
 ·have key:∀ {j k},j<X.length→j≠i→P j k→P' k→False:=fun {j k} hj hji h3 h4=>by
   rcases hp k h4 with h5|h5
   ·exact h.apt j i hj hi hji k h3 h5
   ·have:=(h.tab j hj).plt h3
    omega
  by_cases e1:j1=i
  ·by_cases e2:j2=i
   ·exact hne (e1.trans e2.symm)
   ·simp only[if_pos e1,if_neg e2] at hp1 hp2
    exact key h2 e2 hp2 hp1
  ·by_cases e2:j2=i
   ·simp only[if_neg e1,if_pos e2] at hp1 hp2
    exact key h1 e1 hp1 hp2
   ·simp only[if_neg e1,if_neg e2] at hp1 hp2
    exact h.apt j1 j2 h1 h2 hne k hp1 hp2
 ·by_cases e2:j2=i
  ·simp only[if_pos e2] at hp1
   rcases hp _ hp1 with h5|h5
   ·exact h.kpt j1 i h1 hi h5
   ·have:=(h.knb j1 h1).lt
    omega
  ·simp only[if_neg e2] at hp1
   exact h.kpt j1 j2 h1 h2 hp1
 ·by_cases e:j=i
  ·simp only[if_pos e]
   refine⟨fun h5=>?_,fun h5=>?_,fun h5=>?_⟩
   ·rcases hp _ h5 with h6|h6
    ·exact fx.1 h6
    ·have:=lt_of_block h.blk
     omega
   ·rcases hp _ h5 with h6|h6
    ·exact fx.2.1 h6
    ·have:=lt_of_block k1
     omega
   ·rcases hp _ h5 with h6|h6
    ·exact fx.2.2 h6
    ·have:=lt_of_block m1
     omega
  ·simp only[if_neg e]
   exact h.fx j hj
 ·by_cases e:j=i
  ·simp only[if_pos e] at hp1
   rcases hp _ hp1 with h6|h6
   ·exact h.hi i k hi h6
   ·have:=h.hB
    omega
  ·simp only[if_neg e] at hp1
   exact h.hi j k hj hp1
theorem LfS.know (h:LfS w B a X b Y K P Q) {i t:Nat} (hi:i<X.length) (ht:t<(X[i]).Rs.length) {x:RD} (hx:RwB w x.b x.r) (hf:RdF x) (hw:w'=w.setCell ⟨a.kn i,t,none⟩ x.v):
 LfS w' B a X b Y (fun j=>if j=i then setK (K i) t x else K j) P Q∧Kept (fun k=>k=a.kn i) w w':=by
 subst hw
 have hk:Kept (fun k=>k=a.kn i) w (w.setCell ⟨a.kn i,t,none⟩ x.v):=Kept.setCell (F:=fun k=>k=a.kn i) (p:=⟨a.kn i,t,none⟩) (Kept.refl _ _) rfl _
 obtain⟨bs,hbs⟩:=(h.knb i hi).ty
 obtain⟨cs,k1,k2⟩:=h.kno
 obtain⟨ds,m1,m2⟩:=h.mad
 have nr:NoRun w (fun k=>k=a.kn i):=fun k hk cs e=>by
  subst hk;exact ty_ne hbs e (by decide) rfl
 have bel:Below B w (w.setCell ⟨a.kn i,t,none⟩ x.v):=hk.below h.hB (fun k hk=>by rw[hk];exact h.hk i hi)
 refine⟨⟨(hk.block _ (lt_of_block h.blk) (fun e=>ty_ne h.blk hbs (by decide) e)).trans h.blk,h.old.below bel,⟨cs,(hk.block _ (lt_of_block k1) (fun e=>ty_ne k1 hbs (by decide) e)).trans k1,k2⟩,fun j hj=>?_,fun j t' y hj hy=>?_,⟨ds,(hk.block _ (lt_of_block m1) (fun e=>ty_ne m1 hbs (by decide) e)).trans m1,m2⟩,fun j hj=>(h.tab j hj).kept hk (fun k hp e=>h.kpt i j hi hj (e▸hp)) nr,h.yl,h.apt,h.kpt,h.kin,h.fx,h.hi,h.hk,Nat.le_trans h.hB hk.size,h.hl⟩,hk⟩
 ·by_cases e:j=i
  ·subst e
   simp only[↓reduceIte]
   exact(h.knb j hj).set ht x
  ·simp only[if_neg e]
   exact(h.knb j hj).kept hk (fun e2=>e (h.kin j i hj hi e2))
 ·by_cases e:j=i
  ·subst e
   simp only[↓reduceIte,setK] at hy
   split at hy
   ·injection hy with hy
    subst hy
    exact⟨hx.keptT hk nr,hf⟩
   ·exact⟨(h.knr j t' y hj hy).1.keptT hk nr,(h.knr j t' y hj hy).2⟩
  ·simp only[if_neg e] at hy
   exact⟨(h.knr j t' y hj hy).1.keptT hk nr,(h.knr j t' y hj hy).2⟩
end
theorem made_cells (z:Value) (n:Nat):madeCells #[z] n=(List.replicate n z).toArray:=by
 unfold madeCells
 apply Array.ext
 ·simp
 ·intro i h1 h2
  simp[Nat.mod_one]
theorem make_rows (n:Nat) (L:Int) (hL:L=(n:Int)) (hn:n≤2147483648) (V:World):(Instr.makeSlice 98 (.int .i64 L) (.int .i64 L)).run Try.prog V=.ok (.slice (some ⟨V.heap.size,0,none⟩) n n) (V.alloc (.cells (Array.replicate n (.slice none 0 0)) 102)):=by
 subst hL
 have:=run_make_row' (P:=Try.prog) 98 102 (.slice none 0 0) 24 Try.underlying98 Try.info102 rfl .i64 .i64 n (by omega) (by omega) V
 rw[made_cells,List.toArray_replicate] at this
 rw[this]
theorem BlB.made (V:World) (n:Nat):BlB (V.alloc (.cells (Array.replicate n (.slice none 0 0)) 102)) V.heap.size n []:=⟨_,heap_alloc_new V _,by simp,fun i h=>by cases h⟩
theorem KnB.made (V:World) (n:Nat):KnB (V.alloc (.cells (Array.replicate n (.slice none 0 0)) 102)) V.heap.size n (fun _=>none):=⟨_,heap_alloc_new V _,by simp,fun i h=>by simp[h]⟩
structure LfP (S:List Int) (X:List Lay) (b:Lay) (T Y:List Lay) (K:Nat→Nat→Option RD):Prop where
 inv:TInv S X b T Y
 kno:∀i t x,i<X.length→K i t=some x→∃f,x.r=rlN f (szL S b.1).toNat∧SplOk S X b T Y i (t:Int) f
structure LfB (S:List Int) (X:List Lay) (b:Lay) (T:List Lay) (M:Nat):Prop where
 sz:SzOk S
 wf:Wf S (X++b::T)
 wdt:∀i,i≤X.length→wid (X.drop i++b::T)≤M
 wit:wid T≤M
 few:(M+1)*(szL S b.1).toNat+2<2147483647
theorem LfP.ext {S:List Int} {X:List Lay} {b:Lay} {T Y Y':List Lay} {K:Nat→Nat→Option RD} (h:LfP S X b T Y K) (h':TInv S X b T Y') (e:ExtL Y Y'):LfP S X b T Y' K:=⟨h',fun i t x hi hx=>by
 obtain⟨f,h1,h2⟩:=h.kno i t x hi hx
 exact⟨f,h1,h2.ext h.inv e⟩⟩
theorem LfB.ywid {S:List Int} {X:List Lay} {b:Lay} {T Y:List Lay} {M:Nat} (h:LfB S X b T M) (k:TInv S X b T Y) (i:Nat):wid (Y.drop i++T)≤M*(szL S b.1).toNat+2:=by
 have hb:=(Wf.tail h.wf).1
 have hs:=h.sz.at hb.ge hb.lt
 by_cases hi:i<X.length
 ·have h1:=k.few h.sz hi
  have h2:=Nat.mul_le_mul_right (szL S b.1).toNat (h.wdt i (by omega))
  omega
 ·rw[List.drop_of_length_le (by rw[k.len];omega),List.nil_append]
  have h1:=h.wit
  have h2:M*1≤M*(szL S b.1).toNat:=Nat.mul_le_mul_left _ (by omega)
  omega
def SpL (S:List Int) (B:Nat) (a:LfA) (X:List LA) (b:LA) (T Y:List Lay) (P:Nat→Nat→Prop) (i t:Nat) (w:World) (e:Ending) (w':World):Prop:=
 ∃x:RD,e=.returned (.slice (some ⟨x.b,0,none⟩) x.r.length x.c)∧RwB w' x.b x.r∧RdF x∧∃f,x.r=rlN f (szL S b.lv).toNat∧∃Y' K' P' Q',LfS w' B a X b Y' K' P' Q'∧LfP S (layL X) b.lay T Y' K'∧ExtL Y Y'∧SplOk S (layL X) b.lay T Y' i (t:Int) f∧Kept (LfF a X.length P) w w'∧∀k,LfF a X.length P' k→LfF a X.length P k∨w.heap.size≤k
section
variable {S:List Int} {B:Nat} {a:LfA} {X:List LA} {b:LA} {T Y:List Lay} {M:Nat} {w:World} {K:Nat→Nat→Option RD} {P Q:Nat→Nat→Prop}
theorem layL_at {i:Nat} (hi:i<X.length):(layL X)[i]? =some (X[i]).lay:=by rw[List.getElem?_map,List.getElem?_eq_getElem hi];rfl
theorem layL_drop {i:Nat} (hi:i<X.length):(layL X).drop i=(X[i]).lay::(layL X).drop (i+1):=by
 rw[drop_cons (by simpa using hi),List.getElem_map]
theorem split_row (hB:LfB S (layL X) b.lay T M) (h:LfS w B a X b Y K P Q) {i t:Nat} {x:LA} (hx:(X++[b])[i]? =some x) (ht:inW ((layL X).drop i++b.lay::T) (t:Int)):
 ∃(y:RD) (ht':t<x.Rs.length),x.Rs[t]=y∧(∃g,y.r=rlN g (szL S x.lv).toNat∧(i<X.length→∀c,c<(szL S x.lv).toNat→inW ((layL X).drop (i+1)++b.lay::T) (g c)))∧x.lay.2.getD t []=y.r∧RwB w y.b y.r∧RdF y:=by
 have hr:=(h.oldcell hx).2.2
 have hi:i<(X++[b]).length:=by
  rcases Nat.lt_or_ge i (X++[b]).length with h1|h1
  ·exact h1
  ·rw[List.getElem?_eq_none h1] at hx;cases hx
 rw[List.length_append,List.length_singleton] at hi
 have key:∃T',(layL X).drop i++b.lay::T=x.lay::T'∧Wf S (x.lay::T')∧(i<X.length→T'=(layL X).drop (i+1)++b.lay::T):=by
  have w1:=hB.wf.drop i
  by_cases hiX:i<X.length
  ·rw[List.getElem?_append_left hiX,List.getElem?_eq_getElem hiX] at hx
   injection hx with hx
   rw[layL_drop hiX,hx] at w1 ⊢
   exact⟨_,rfl,w1,fun _=>rfl⟩
  ·have e:i=X.length:=by omega
   subst e
   rw[List.getElem?_append_right (Nat.le_refl _)] at hx
   simp at hx
   subst hx
   rw[List.drop_of_length_le (by simp)] at w1 ⊢
   exact⟨T,rfl,w1,fun h=>absurd h (Nat.lt_irrefl _)⟩
 obtain⟨T',e1,w1,e2⟩:=key
 rw[e1] at ht
 have ht2:t<x.Rs.length:=by
  have:=ht.2
  have h3:((t:Nat):Int)<((rdR x.Rs).length:Int):=this
  rw[rdR,List.length_map] at h3
  omega
 obtain⟨g,eg,hg⟩:=w1.1.at ht
 have e3:x.lay.2.getD (t:Int).toNat []=(x.Rs[t]).r:=by
  rw[Int.toNat_natCast,List.getD_eq_getElem?_getD]
  show(rdR x.Rs)[t]?.getD []=_
  rw[rdR,List.getElem?_map,List.getElem?_eq_getElem ht2]
  rfl
 refine⟨x.Rs[t],ht2,rfl,⟨g,?_,fun hiX c hc=>?_⟩,?_,(hr.row _ (List.getElem_mem ht2)).1,(hr.row _ (List.getElem_mem ht2)).2.1⟩
 ·rw[←e3,eg];rfl
 ·rw[←e2 hiX];exact hg c hc
 ·rw[Int.toNat_natCast] at e3;exact e3
set_option maxRecDepth 100000 in
set_option maxHeartbeats 4000000 in
theorem split_last (hB:LfB S (layL X) b.lay T M) (h:LfS w B a X b Y K P Q) (hp:LfP S (layL X) b.lay T Y K) {t:Nat} (ht:inW ((layL X).drop X.length++b.lay::T) (t:Int)):
 Calls Try.prog 58 #[.pointer (some ⟨a.l,0,none⟩),.int .i64 (X.length:Int),.int .i32 (t:Int)] w fun e w'=>SpL S B a X b T Y P X.length t w e w':=by
 have hx:(X++[b])[X.length]? =some b:=by rw[List.getElem?_append_right (Nat.le_refl _)];simp
 obtain⟨y,ht',hy,⟨g,hg,_⟩,hgd,rwy,rdf⟩:=split_row hB h hx ht
 obtain⟨o1,_,o3⟩:=h.oldcell hx
 have q1:=o3.cell ht'
 rw[hy] at q1
 have HH:=hide h
 have HP:=hide hp
 have HG:=hide hg
 have HR:=hide (And.intro rwy rdf)
 have hwb:=(Wf.tail hB.wf)
 have HS:Hid (SplOk S (layL X) b.lay T Y X.length (t:Int) g):=by
  have:=SplOk.base (X:=layL X) (Y:=Y) hp.inv.len hwb (t:=(t:Int)) (by
   rw[List.drop_of_length_le (by simp)] at ht;exact ht) (x:=g) (by rw[Int.toNat_natCast,hgd,hg];rfl)
  rw[List.length_map] at this
  exact this
 obtain⟨c0,c1,c2⟩:=h.cells
 have hlt:(X.length:Int)<(X.length:Int)+1:=by omega
 have ht2:(t:Int)<(b.Rs.length:Int):=by omega
 clear h hp hB ht hx hy hg hgd rwy rdf o3 hwb ht'
 generalize b.Rs.length=nb at *
 go_enter Try.func58,Try.ntmps58
 go_wp2
 go_ret
 exact⟨y,rfl,HR.out.1,HR.out.2,g,HG.out,Y,K,P,Q,HH.out,HP.out,ExtL.refl _,HS.out,Kept.refl _ _,fun k hk=>.inl hk⟩
end
end Go.Proofs.Ytnddhkhmbjeefaa

