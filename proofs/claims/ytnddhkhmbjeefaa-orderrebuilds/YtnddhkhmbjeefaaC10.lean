/-
  Diagrams as layers of rows: what a row says; unlike rows say unlike things. In pure words; of no program: no condition.
-/
import Derived.Test.YtnddhkhmbjeefaaC03
import Derived.Test.YtnddhkhmbjeefaaC09
namespace Go.Proofs.Ytnddhkhmbjeefaa
open Go.RowKit
abbrev Lay:=Int×List (List Rn)
def sayL:List Lay→Int→Phi
 |[],x,_=>decide (x=1)
 |l::T,x,p=>sayL T (goR (l.2.getD x.toNat []) (p l.1.toNat:Int)) p
def wid:List Lay→Nat
 |[]=>2
 |l::_=>l.2.length
def RowOk (s:Int) (n:Nat) (r:List Rn):Prop:=∃g:Nat→Int,r=rlN g s.toNat∧∀c,c<s.toNat→0≤g c∧g c<(n:Int)
abbrev szL (S:List Int) (l:Int):Int:=S.getD l.toNat 0
structure LayOk (S:List Int) (l:Lay) (n:Nat):Prop where
 ge:0≤l.1
 lt:l.1<(S.length:Int)
 r0:l.2[0]? =some [(szL S l.1,0)]
 r1:l.2[1]? =some [(szL S l.1,1)]
 nod:l.2.Nodup
 row:∀r∈l.2,RowOk (szL S l.1) n r
def Wf (S:List Int):List Lay→Prop
 |[]=>True
 |l::T=>LayOk S l (wid T)∧l.1∉T.map (·.1)∧Wf S T
def inW (L:List Lay) (x:Int):Prop:=0≤x∧x<(wid L:Int)
section
variable {S:List Int} {L T A:List Lay} {l:Lay} {x y:Int} {p p':Nat→Nat}
theorem SzOk.at (h:SzOk S) {lv:Int} (h0:0≤lv) (h1:lv<(S.length:Int)):1≤szL S lv∧szL S lv≤256:=by
 have hl:lv.toNat<S.length:=by omega
 exact h.each _ (by show S.getD lv.toNat 0∈S;rw[List.getD_eq_getElem?_getD,List.getElem?_eq_getElem hl];exact List.getElem_mem _)
theorem Pnt.at (hp:Pnt S p) {lv:Int} (h0:0≤lv) (h1:lv<(S.length:Int)):(p lv.toNat:Int)<szL S lv:=hp _ (by omega)
theorem inW.get (h:inW (l::T) x):∃hx:x.toNat<l.2.length,l.2.getD x.toNat []=l.2[x.toNat]:=by
 have h0:=h.1
 have h1:x<(l.2.length:Int):=h.2
 refine⟨by omega,?_⟩
 rw[List.getD_eq_getElem?_getD,List.getElem?_eq_getElem (by omega)]
 rfl
theorem LayOk.at {n:Nat} (h:LayOk S l n) (hx:inW (l::T) x):∃g:Nat→Int,l.2.getD x.toNat []=rlN g (szL S l.1).toNat∧∀c,c<(szL S l.1).toNat→0≤g c∧g c<(n:Int):=by
 obtain⟨h1,e⟩:=hx.get
 rw[e]
 exact h.row _ (List.getElem_mem _)
theorem LayOk.two {n:Nat} (h:LayOk S l n):2≤l.2.length:=by
 have:=h.r1
 rcases Nat.lt_or_ge 1 l.2.length with h1|h1
 ·exact h1
 ·rw[List.getElem?_eq_none h1] at this;cases this
theorem Wf.two:∀ {L:List Lay},Wf S L→2≤wid L
 |[],_=>Nat.le_refl _
 |_::_,h=>h.1.two
theorem Wf.zero (h:Wf S L):inW L 0:=⟨by omega,by have:=h.two;omega⟩
theorem Wf.one (h:Wf S L):inW L 1:=⟨by omega,by have:=h.two;omega⟩
theorem Wf.go (h:Wf S (l::T)) (hx:inW (l::T) x) {c:Int} (h0:0≤c) (hc:c<szL S l.1):inW T (goR (l.2.getD x.toNat []) c):=by
 obtain⟨g,e,hg⟩:=h.1.at hx
 obtain⟨k,rfl⟩:∃k:Nat,c=k:=⟨c.toNat,by omega⟩
 rw[e,goR_rlN g _ k (by omega)]
 exact hg k (by omega)
theorem Wf.goP (h:Wf S (l::T)) (hp:Pnt S p) (hx:inW (l::T) x):inW T (goR (l.2.getD x.toNat []) (p l.1.toNat:Int)):=h.go hx (by omega) (hp.at h.1.ge h.1.lt)
theorem Wf.go0 (h:Wf S (l::T)) {c:Int} (hc:c<szL S l.1):goR (l.2.getD (0:Int).toNat []) c=0∧goR (l.2.getD (1:Int).toNat []) c=1:=by
 have e0:l.2.getD (0:Int).toNat []=[(szL S l.1,0)]:=by rw[List.getD_eq_getElem?_getD,show(0:Int).toNat=0 from rfl,h.1.r0];rfl
 have e1:l.2.getD (1:Int).toNat []=[(szL S l.1,1)]:=by rw[List.getD_eq_getElem?_getD,show(1:Int).toNat=1 from rfl,h.1.r1];rfl
 rw[e0,e1]
 simp only[goR,hc,if_true,and_self]
theorem say_const:∀ {L:List Lay},Wf S L→Pnt S p→sayL L 0 p=false∧sayL L 1 p=true
 |[],_,_=>⟨rfl,rfl⟩
 |l::T,h,hp=>by
  obtain⟨h0,h1⟩:=h.go0 (hp.at h.1.ge h.1.lt)
  simp only[sayL]
  rw[h0,h1]
  exact say_const h.2.2 hp
theorem say_off:∀(L:List Lay) (x:Int),(∀lv∈L.map (·.1),p lv.toNat=p' lv.toNat)→sayL L x p=sayL L x p'
 |[],_,_=>rfl
 |l::T,x,h=>by
  simp only[sayL]
  rw[h l.1 (by simp)]
  exact say_off T _ (fun lv hl=>h lv (by simp only[List.map_cons,List.mem_cons];exact .inr hl))
theorem Wf.ge:∀ {L:List Lay},Wf S L→∀lv∈L.map (·.1),0≤lv∧lv<(S.length:Int)
 |[],_,lv,h=>by simp at h
 |l::T,h,lv,hl=>by
  simp only[List.map_cons,List.mem_cons] at hl
  rcases hl with rfl|hl
  ·exact⟨h.1.ge,h.1.lt⟩
  ·exact Wf.ge h.2.2 lv hl
theorem say_upd (h:Wf S L) {lv:Int} (hn:lv∉L.map (·.1)) (h0:0≤lv) {c:Nat}:sayL L x (upd p lv.toNat c)=sayL L x p:=by
 refine say_off L x (fun k hk=>upd_ne p c (fun e=>hn ?_))
 have:=(h.ge k hk).1
 have:k=lv:=by omega
 rw[←this];exact hk
theorem Wf.nodup:∀ {L:List Lay},Wf S L→(L.map (·.1)).Nodup
 |[],_=>List.nodup_nil
 |_::_,h=>List.nodup_cons.2 ⟨h.2.1,Wf.nodup h.2.2⟩
theorem Wf.tail:∀ {A:List Lay},Wf S (A++L)→Wf S L
 |[],h=>h
 |_::_,h=>Wf.tail h.2.2
theorem at_inj {α:Type} {R:List α} (hn:R.Nodup) {i j:Nat} (hi:i<R.length) (hj:j<R.length) (e:R[i]=R[j]):i=j:=by
 have hp:=List.pairwise_iff_getElem.1 hn
 rcases Nat.lt_trichotomy i j with h|h|h
 ·exact absurd e (hp i j hi hj h)
 ·exact h
 ·exact absurd e.symm (hp j i hj hi h)
theorem say_ne (hS:SzOk S):∀ {L:List Lay},Wf S L→∀ {x y:Int},inW L x→inW L y→(∀p,Pnt S p→sayL L x p=sayL L y p)→x=y
 |[],_,x,y,hx,hy,h=>by
  have h1:=h _ (Pnt.zero hS)
  simp only[sayL] at h1
  have hx0:=hx.1
  have hy0:=hy.1
  have hx1:x<2:=hx.2
  have hy1:y<2:=hy.2
  have h2:x=1↔y=1:=by simpa using h1
  omega
 |l::T,w,x,y,hx,hy,h=>by
  obtain⟨g,eg,hg⟩:=w.1.at hx
  obtain⟨k,ek,hk⟩:=w.1.at hy
  have hs:=hS.at w.1.ge w.1.lt
  have hgk:∀c,c<(szL S l.1).toNat→g c=k c:=fun c hc=>by
   refine say_ne hS w.2.2 (hg c hc) (hk c hc) (fun p hp=>?_)
   have hc':(c:Int)<S.getD l.1.toNat 0:=by show(c:Int)<szL S l.1;omega
   have h1:=h _ (hp.upd hc')
   simp only[sayL] at h1
   rw[eg,ek,upd_at,goR_rlN _ _ _ hc,goR_rlN _ _ _ hc,say_upd w.2.2 w.2.1 w.1.ge,say_upd w.2.2 w.2.1 w.1.ge] at h1
   exact h1
  have e:=rlN_congr _ hgk
  rw[←eg,←ek] at e
  obtain⟨h1,e1⟩:=hx.get
  obtain⟨h2,e2⟩:=hy.get
  rw[e1,e2] at e
  have:=at_inj w.1.nod h1 h2 e
  have:=hx.1
  have:=hy.1
  omega
theorem wid_app (h:wid L≤wid T):∀A:List Lay,wid (A++L)≤wid (A++T)
 |[]=>h
 |_::_=>Nat.le_refl _
theorem say_app:∀ {A:List Lay},Wf S (A++L)→Pnt S p→(∀x,inW L x→sayL T x p=sayL L x p)→∀ {x:Int},inW (A++L) x→sayL (A++T) x p=sayL (A++L) x p
 |[],_,_,h,_,hx=>h _ hx
 |_::_,w,hp,h,_,hx=>by
  simp only[List.cons_append,sayL]
  exact say_app w.2.2 hp h (w.goP hp hx)
theorem LayOk.wide {n m:Nat} (h:LayOk S l n) (hm:n≤m):LayOk S l m:=⟨h.ge,h.lt,h.r0,h.r1,h.nod,fun r hr=>by
 obtain⟨g,e,hg⟩:=h.row r hr
 exact⟨g,e,fun c hc=>⟨(hg c hc).1,by have:=(hg c hc).2;omega⟩⟩⟩
theorem Wf.app:∀ {A:List Lay},Wf S (A++L)→Wf S T→wid L≤wid T→(∀lv∈T.map (·.1),lv∈L.map (·.1))→Wf S (A++T)
 |[],_,h,_,_=>h
 |a::A,w,h,e,hm=>by
  have w':LayOk S a (wid (A++L))∧a.1∉(A++L).map (·.1)∧Wf S (A++L):=w
  refine(show LayOk S a (wid (A++T))∧a.1∉(A++T).map (·.1)∧Wf S (A++T) from⟨w'.1.wide (wid_app e A),fun hn=>w'.2.1 ?_,Wf.app w'.2.2 h e hm⟩)
  rw[List.map_append,List.mem_append] at hn ⊢
  exact hn.imp id (hm _)
end
def mixP (o:List Int) (q p:Nat→Nat):Nat→Nat:=fun j=>if (j:Int)∈o then q j else p j
structure GD (S:List Int) (F:List Phi) (R:List Int) (L:List Lay):Prop where
 wf:Wf S L
 len:L.length=S.length
 rl:R.length=F.length
 rt:∀k (h:k<F.length),inW L (R.getD k 0)∧∀p,Pnt S p→sayL L (R.getD k 0) p=F[k] p
 rch:∀A l T,L=A++l::T→∀x:Int,2≤x→x<(l.2.length:Int)→∃k,∃h:k<F.length,∃q,Pnt S q∧∀p,Pnt S p→sayL (l::T) x p=F[k] (mixP (A.map (·.1)) q p)
section
variable {S:List Int} {o:List Int} {p q:Nat→Nat}
theorem mix_nil:mixP [] q p=p:=by funext j;simp[mixP]
theorem mix_in {j:Nat} (h:(j:Int)∈o):mixP o q p j=q j:=by unfold mixP;rw[if_pos h]
theorem mix_out {j:Nat} (h:(j:Int)∉o):mixP o q p j=p j:=by unfold mixP;rw[if_neg h]
theorem mix_perm {o':List Int} (h:∀l,l∈o↔l∈o'):mixP o q p=mixP o' q p:=by
 funext j
 unfold mixP
 by_cases h1:(j:Int)∈o
 ·rw[if_pos h1,if_pos ((h _).1 h1)]
 ·rw[if_neg h1,if_neg (fun h2=>h1 ((h _).2 h2))]
end
def ExtL:List Lay→List Lay→Prop
 |[],[]=>True
 |l::Y,l'::Y'=>(l'.1=l.1∧∃U,l'.2=l.2++U)∧ExtL Y Y'
 |[],_::_=>False
 |_::_,[]=>False
section
variable {S:List Int} {X Y Y' Y'' T:List Lay} {b:Lay} {p:Nat→Nat}
theorem ExtL.refl:∀Y:List Lay,ExtL Y Y
 |[]=>trivial
 |_::Y=>⟨⟨rfl,[],by simp⟩,ExtL.refl Y⟩
theorem ExtL.trans:∀ {Y Y' Y'':List Lay},ExtL Y Y'→ExtL Y' Y''→ExtL Y Y''
 |[],[],[],_,_=>trivial
 |_::_,_::_,_::_,h,k=>⟨⟨k.1.1.trans h.1.1,by
   obtain⟨U,hU⟩:=h.1.2
   obtain⟨V,hV⟩:=k.1.2
   exact⟨U++V,by rw[hV,hU,List.append_assoc]⟩⟩,ExtL.trans h.2 k.2⟩
 |[],_::_,_,h,_=>h.elim
 |_::_,[],_,h,_=>h.elim
 |[],[],_::_,_,k=>k.elim
 |_::_,_::_,[],_,k=>k.elim
theorem ExtL.map:∀ {Y Y':List Lay},ExtL Y Y'→Y'.map (·.1)=Y.map (·.1)
 |[],[],_=>rfl
 |_::_,_::_,h=>by rw[List.map_cons,List.map_cons,h.1.1,ExtL.map h.2]
 |[],_::_,h=>h.elim
 |_::_,[],h=>h.elim
theorem ExtL.wid:∀ {Y Y':List Lay},ExtL Y Y'→wid (Y++T)≤wid (Y'++T)
 |[],[],_=>Nat.le_refl _
 |_::_,_::_,h=>by
  obtain⟨U,hU⟩:=h.1.2
  show _≤List.length _
  rw[hU,List.length_append]
  exact Nat.le_add_right _ _
 |[],_::_,h=>h.elim
 |_::_,[],h=>h.elim
theorem ExtL.inW (h:ExtL Y Y') {x:Int} (hx:inW (Y++T) x):inW (Y'++T) x:=⟨hx.1,by have:=hx.2;have:=h.wid (T:=T);omega⟩
theorem ExtL.drop:∀ {Y Y':List Lay} (i:Nat),ExtL Y Y'→ExtL (Y.drop i) (Y'.drop i)
 |_,_,0,h=>h
 |[],[],_+1,_=>trivial
 |_::_,_::_,i+1,h=>ExtL.drop i h.2
 |[],_::_,_+1,h=>h.elim
 |_::_,[],_+1,h=>h.elim
theorem ext_say (hp:Pnt S p):∀ {Y Y':List Lay},Wf S (Y++T)→ExtL Y Y'→∀ {x:Int},inW (Y++T) x→sayL (Y'++T) x p=sayL (Y++T) x p
 |[],[],_,_,_,_=>rfl
 |l::Y,l'::Y',w,h,x,hx=>by
  obtain⟨U,hU⟩:=h.1.2
  have w':Wf S (l::(Y++T)):=w
  have hx':Go.Proofs.Ytnddhkhmbjeefaa.inW (l::(Y++T)) x:=hx
  obtain⟨h1,e⟩:=hx'.get
  have e':l'.2.getD x.toNat []=l.2.getD x.toNat []:=by
   rw[hU]
   simp only[List.getD_eq_getElem?_getD]
   rw[List.getElem?_append_left h1]
  simp only[List.cons_append,sayL]
  rw[e',h.1.1]
  exact ext_say hp w'.2.2 h.2 (w'.goP hp hx')
 |[],_::_,_,h,_,_=>h.elim
 |_::_,[],_,h,_,_=>h.elim
structure TInv (S:List Int) (X:List Lay) (b:Lay) (T Y:List Lay):Prop where
 lv:Y.map (·.1)=X.map (·.1)
 wf:Wf S (Y++T)
 org:∀i,i<X.length→∀x:Int,2≤x→inW (Y.drop i++T) x→∃t c,inW (X.drop i++b::T) t∧c<(szL S b.1).toNat∧∀p,Pnt S p→sayL (Y.drop i++T) x p=sayL (X.drop i++b::T) t (upd p b.1.toNat c)
def SplOk (S:List Int) (X:List Lay) (b:Lay) (T Y:List Lay) (i:Nat) (t:Int) (x:Nat→Int):Prop:=
 ∀c,c<(szL S b.1).toNat→inW (Y.drop i++T) (x c)∧∀p,Pnt S p→sayL (Y.drop i++T) (x c) p=sayL (X.drop i++b::T) t (upd p b.1.toNat c)
theorem Wf.drop (w:Wf S (Y++T)) (i:Nat):Wf S (Y.drop i++T):=by
 refine Wf.tail (A:=Y.take i) ?_
 rw[←List.append_assoc,List.take_append_drop]
 exact w
theorem TInv.len (h:TInv S X b T Y):Y.length=X.length:=by
 have:=congrArg List.length h.lv
 simpa using this
theorem SplOk.ext (h:TInv S X b T Y) (e:ExtL Y Y') {i:Nat} {t:Int} {x:Nat→Int} (k:SplOk S X b T Y i t x):SplOk S X b T Y' i t x:=fun c hc=>
 ⟨(e.drop i).inW (k c hc).1,fun p hp=>(ext_say hp (h.wf.drop i) (e.drop i) (k c hc).1).trans ((k c hc).2 p hp)⟩
theorem SplOk.base (hl:Y.length=X.length) (w:Wf S (b::T)) {t:Int} (ht:inW (b::T) t) {x:Nat→Int} (hx:b.2.getD t.toNat []=rlN x (szL S b.1).toNat):SplOk S X b T Y X.length t x:=fun c hc=>by
 rw[List.drop_length,List.drop_of_length_le (by omega),List.nil_append,List.nil_append]
 have h1:=goR_rlN x _ c hc
 rw[←hx] at h1
 refine⟨by rw[←h1];exact w.go ht (by omega) (by omega),fun p hp=>?_⟩
 simp only[sayL]
 rw[upd_at,h1,say_upd w.2.2 w.2.1 w.1.ge]
theorem drop_cons {α:Type} {l:List α} {i:Nat} (h:i<l.length):l.drop i=l[i]::l.drop (i+1):=List.drop_eq_getElem_cons h
theorem turn_ok (h:TInv S X b T Y) (W:Wf S (X++b::T)) {i:Nat} (hi:i<X.length) {t:Int} (ht:inW (X.drop i++b::T) t) {g:Nat→Int} {xl yl:Lay} (hx:X[i]? =some xl) (hy:Y[i]? =some yl) (hg:xl.2.getD t.toNat []=rlN g (szL S xl.1).toNat)
 {H:Nat→Nat→Int} (hH:∀a,a<(szL S xl.1).toNat→SplOk S X b T Y (i+1) (g a) (H a)) {U:List (List Rn)} {idx:Nat→Int} (hn:(yl.2++U).Nodup) (hU:∀r∈U,∃c,c<(szL S b.1).toNat∧r=rlN (fun a=>H a c) (szL S xl.1).toNat)
 (hid:∀c,c<(szL S b.1).toNat→0≤idx c∧(yl.2++U)[(idx c).toNat]? =some (rlN (fun a=>H a c) (szL S xl.1).toNat)):
 TInv S X b T (Y.set i (yl.1,yl.2++U))∧ExtL Y (Y.set i (yl.1,yl.2++U))∧SplOk S X b T (Y.set i (yl.1,yl.2++U)) i t idx:=by
 have hiy:i<Y.length:=by rw[h.len];exact hi
 have exi:X[i]=xl:=by rw[List.getElem?_eq_getElem hi] at hx;exact Option.some.inj hx
 have eyi:Y[i]=yl:=by rw[List.getElem?_eq_getElem hiy] at hy;exact Option.some.inj hy
 have dX:X.drop i=xl::X.drop (i+1):=by rw[drop_cons hi,exi]
 have dY:Y.drop i=yl::Y.drop (i+1):=by rw[drop_cons hiy,eyi]
 have elv:yl.1=xl.1:=by
  have:=congrArg (fun l=>l[i]?) h.lv
  simp only[List.getElem?_map,hx,hy,Option.map_some,Option.some.injEq] at this
  exact this
 have eset:Y.set i (yl.1,yl.2++U)=Y.take i++(yl.1,yl.2++U)::Y.drop (i+1):=by rw[List.set_eq_take_append_cons_drop,if_pos hiy]
 have eY:Y=Y.take i++yl::Y.drop (i+1):=by rw[←dY,List.take_append_drop]
 have dS:(Y.set i (yl.1,yl.2++U)).drop i=(yl.1,yl.2++U)::Y.drop (i+1):=by
  rw[eset,List.drop_left' (by rw[List.length_take];omega)]
 have hext:ExtL Y (Y.set i (yl.1,yl.2++U)):=by
  have:∀(A B:List Lay) (l:Lay),ExtL (A++l::B) (A++(l.1,l.2++U)::B):=fun A B l=>by
   induction A with
   |nil=>exact⟨⟨rfl,U,rfl⟩,ExtL.refl B⟩
   |cons a A ih=>exact⟨⟨rfl,[],by simp⟩,ih⟩
  rw[eset]
  have k:=this (Y.take i) (Y.drop (i+1)) yl
  rw[←eY] at k
  exact k
 have wX:Wf S (xl::(X.drop (i+1)++b::T)):=by
  have:=W.drop i
  rw[dX] at this
  exact this
 have wY:Wf S (yl::(Y.drop (i+1)++T)):=by
  have:=h.wf.drop i
  rw[dY] at this
  exact this
 have hbx:b.1≠xl.1:=fun e=>wX.2.1 (by rw[List.map_append,List.mem_append,List.map_cons,List.mem_cons];exact .inr (.inl e.symm))
 have hbge:0≤b.1:=(Wf.tail W).1.ge
 have hblt:b.1<(S.length:Int):=(Wf.tail W).1.lt
 have ht':inW (xl::(X.drop (i+1)++b::T)) t:=by rw[dX] at ht;exact ht
 have wN:Wf S ((yl.1,yl.2++U)::(Y.drop (i+1)++T)):=by
  refine⟨⟨wY.1.ge,wY.1.lt,?_,?_,hn,fun r hr=>?_⟩,wY.2.1,wY.2.2⟩
  ·rw[List.getElem?_append_left (by have:=wY.1.two;omega)];exact wY.1.r0
  ·rw[List.getElem?_append_left (by have:=wY.1.two;omega)];exact wY.1.r1
  ·rcases List.mem_append.1 hr with hr|hr
   ·exact wY.1.row r hr
   ·obtain⟨c,hc,rfl⟩:=hU r hr
    refine⟨fun a=>H a c,by rw[elv],fun a ha=>?_⟩
    exact(hH a (by rw[←elv];exact ha) c hc).1
 have hwid:wid (Y.drop i++T)≤wid ((Y.set i (yl.1,yl.2++U)).drop i++T):=(hext.drop i).wid
 have wS:Wf S (Y.set i (yl.1,yl.2++U)++T):=by
  rw[eset,List.append_assoc]
  refine Wf.app (L:=yl::Y.drop (i+1)++T) ?_ wN ?_ ?_
  ·rw[←List.append_assoc,←eY];exact h.wf
  ·rw[dS,dY] at hwid;exact hwid
  ·intro lv hlv;exact hlv
 have key:∀(z:Int) (c:Nat),0≤z→(yl.2++U)[z.toNat]? =some (rlN (fun a=>H a c) (szL S xl.1).toNat)→c<(szL S b.1).toNat→∀p,Pnt S p→sayL ((Y.set i (yl.1,yl.2++U)).drop i++T) z p=sayL (X.drop i++b::T) t (upd p b.1.toNat c):=fun z c hz he hc p hp=>by
  rw[dS,dX]
  simp only[List.cons_append,sayL]
  have e1:(yl.2++U).getD z.toNat []=rlN (fun a=>H a c) (szL S xl.1).toNat:=by rw[List.getD_eq_getElem?_getD,he];rfl
  have hpc:p xl.1.toNat<(szL S xl.1).toNat:=by have:=hp.at wX.1.ge wX.1.lt;omega
  rw[e1,elv,goR_rlN _ _ _ hpc,hg,upd_ne p c (by have:=wX.1.ge;omega),goR_rlN _ _ _ hpc]
  exact(hH _ hpc c hc).2 p hp
 refine⟨⟨hext.map.trans h.lv,wS,fun j hj z hz hzW=>?_⟩,hext,fun c hc=>⟨⟨(hid c hc).1,?_⟩,key _ c (hid c hc).1 (hid c hc).2 hc⟩⟩
 ·by_cases hold:inW (Y.drop j++T) z
  ·obtain⟨t',c,h1,h2,h3⟩:=h.org j hj z hz hold
   exact⟨t',c,h1,h2,fun p hp=>(ext_say hp (h.wf.drop j) (hext.drop j) hold).trans (h3 p hp)⟩
  ·have hji:j=i:=by
    rcases Nat.lt_trichotomy j i with hlt|e|hlt
    ·exfalso
     apply hold
     have hjy:j<Y.length:=by omega
     have e1:(Y.set i (yl.1,yl.2++U)).drop j=Y[j]::(Y.set i (yl.1,yl.2++U)).drop (j+1):=by
      rw[drop_cons (by rw[List.length_set];exact hjy),List.getElem_set_ne (by omega)]
     rw[e1] at hzW
     rw[drop_cons hjy]
     exact hzW
    ·exact e
    ·exfalso
     apply hold
     have e1:(Y.set i (yl.1,yl.2++U)).drop j=Y.drop j:=List.drop_set_of_lt hlt
     rw[e1] at hzW
     exact hzW
   subst hji
   rw[dY] at hold
   rw[dS] at hzW
   have hz1:z<((yl.2++U).length:Int):=hzW.2
   have hz2:¬z<(yl.2.length:Int):=fun h1=>hold ⟨hzW.1,h1⟩
   rw[List.length_append] at hz1
   have hz3:z.toNat-yl.2.length<U.length:=by omega
   obtain⟨c,hc,er⟩:=hU _ (List.getElem_mem hz3)
   refine⟨t,c,ht,hc,key z c (by omega) ?_ hc⟩
   rw[List.getElem?_append_right (by omega),List.getElem?_eq_getElem hz3,er]
 ·obtain⟨h1,h2⟩:=hid c hc
  rw[dS]
  show idx c<((yl.2++U).length:Int)
  rcases Nat.lt_or_ge (idx c).toNat (yl.2++U).length with h3|h3
  ·omega
  ·rw[List.getElem?_eq_none h3] at h2;cases h2
end
theorem pigR {α β:Type} {R:α→β→Prop}:∀(A:List α) (B:List β),A.Nodup→(∀a∈A,∃b∈B,R a b)→(∀a∈A,∀a'∈A,∀b,R a b→R a' b→a=a')→A.length≤B.length
 |[],_,_,_,_=>Nat.zero_le _
 |a::A,B,hn,h,hi=>by
  obtain⟨b,hb,r⟩:=h a (by simp)
  obtain⟨B1,B2,rfl⟩:=List.append_of_mem hb
  have hn':=List.nodup_cons.1 hn
  have:=pigR A (B1++B2) hn'.2 (fun a' ha'=>by
   obtain⟨b',hb',r'⟩:=h a' (by simp[ha'])
   refine⟨b',?_,r'⟩
   rw[List.mem_append,List.mem_cons] at hb'
   rcases hb' with h1|rfl|h1
   ·exact List.mem_append_left _ h1
   ·have:=hi a (by simp) a' (by simp[ha']) _ r r'
    subst this
    exact absurd ha' hn'.1
   ·exact List.mem_append_right _ h1) (fun a1 h1 a2 h2=>hi a1 (by simp[h1]) a2 (by simp[h2]))
  simp only[List.length_append,List.length_cons] at *
  omega
def pairs (n m:Nat):List (Nat×Nat):=(List.range n).flatMap fun t=>(List.range m).map fun c=>(t,c)
theorem pairs_length (n m:Nat):(pairs n m).length=n*m:=by
 unfold pairs
 induction n with
 |zero=>simp
 |succ n ih=>rw[List.range_succ,List.flatMap_append,List.length_append,ih,Nat.succ_mul];simp
theorem pairs_mem {n m t c:Nat} (ht:t<n) (hc:c<m):(t,c)∈pairs n m:=List.mem_flatMap.2 ⟨t,List.mem_range.2 ht,List.mem_map.2 ⟨c,List.mem_range.2 hc,rfl⟩⟩
section
variable {S:List Int} {X Y A T:List Lay} {b:Lay} {p q:Nat→Nat} {F:List Phi} {R:List Int}
theorem upd_self (p:Nat→Nat) (l:Nat):upd p l (p l)=p:=by
 funext j
 unfold upd
 split
 ·rename_i e;rw[e]
 ·rfl
def tab0 (S:List Int) (X:List Lay):List Lay:=X.map fun l=>(l.1,[[(szL S l.1,0)],[(szL S l.1,1)]])
theorem row_const {s:Int} (h:1≤s) (z:Int):rlN (fun _=>z) s.toNat=[(s,z)]:=by
 rw[rlN_const (fun _ _=>rfl) (by omega)]
 congr 2
 omega
theorem tab0_wf (hS:SzOk S):∀ {X:List Lay},Wf S (X++b::T)→Wf S (tab0 S X++T)
 |[],w=>w.2.2
 |l::X,w=>by
  have w':LayOk S l (wid (X++b::T))∧l.1∉(X++b::T).map (·.1)∧Wf S (X++b::T):=w
  have ih:=tab0_wf hS w'.2.2
  have hs:=hS.at w'.1.ge w'.1.lt
  have h2:=ih.two
  refine(show LayOk S (l.1,[[(szL S l.1,0)],[(szL S l.1,1)]]) (wid (tab0 S X++T))∧l.1∉(tab0 S X++T).map (·.1)∧Wf S (tab0 S X++T) from⟨⟨w'.1.ge,w'.1.lt,rfl,rfl,?_,fun r hr=>?_⟩,fun hn=>w'.2.1 ?_,ih⟩)
  ·refine List.nodup_cons.2 ⟨?_,List.nodup_cons.2 ⟨by simp,List.nodup_nil⟩⟩
   simp
  ·simp only[List.mem_cons,List.not_mem_nil,or_false] at hr
   rcases hr with rfl|rfl
   ·exact⟨fun _=>0,(row_const hs.1 0).symm,fun c _=>⟨show(0:Int)≤0 by omega,show(0:Int)<_ by omega⟩⟩
   ·exact⟨fun _=>1,(row_const hs.1 1).symm,fun c _=>⟨show(0:Int)≤1 by omega,show(1:Int)<_ by omega⟩⟩
  ·rw[List.map_append,List.mem_append] at hn ⊢
   rcases hn with hn|hn
   ·left
    simpa [tab0] using hn
   ·exact .inr (by simp only[List.map_cons,List.mem_cons];exact .inr hn)
theorem TInv.start (hS:SzOk S) (w:Wf S (X++b::T)):TInv S X b T (tab0 S X):=by
 refine⟨by simp[tab0],tab0_wf hS w,fun i hi x hx hxW=>?_⟩
 have e:(tab0 S X).drop i=(fun l:Lay=>(l.1,[[(szL S l.1,0)],[(szL S l.1,1)]])) X[i]::(tab0 S X).drop (i+1):=by
  rw[drop_cons (by simpa [tab0] using hi)]
  simp[tab0]
 rw[e] at hxW
 have h2:x<((2:Nat):Int):=hxW.2
 omega
theorem low_const (hS:SzOk S) {L:List Lay} (w:Wf S L) {x:Int} (hx:inW L x) (h2:2≤x) {z:Bool} (h:∀p,Pnt S p→sayL L x p=z):False:=by
 cases z
 ·have:=say_ne hS w hx w.zero (fun p hp=>(h p hp).trans (say_const w hp).1.symm)
  omega
 ·have:=say_ne hS w hx w.one (fun p hp=>(h p hp).trans (say_const w hp).2.symm)
  omega
theorem mix_upd {o o':List Int} {lv:Int} (h0:0≤lv) (hn:lv∉o) (ho:∀l,l∈o'↔l=lv∨l∈o) {c:Nat}:mixP o q (upd p lv.toNat c)=mixP o' (upd q lv.toNat c) p:=by
 funext j
 unfold mixP
 by_cases hj:(j:Int)∈o
 ·have hne:j≠lv.toNat:=fun e=>hn (by have:(j:Int)=lv:=by omega
                                     rw[←this];exact hj)
  rw[if_pos hj,if_pos ((ho _).2 (.inr hj)),upd_ne q c hne]
 ·by_cases e:(j:Int)=lv
  ·have e':j=lv.toNat:=by omega
   rw[if_neg hj,if_pos ((ho _).2 (.inl e)),e',upd_at,upd_at]
  ·have hne:j≠lv.toNat:=fun h=>e (by omega)
   rw[if_neg hj,if_neg (fun h=>((ho _).1 h).elim e hj),upd_ne p c hne]
theorem TInv.reach (hS:SzOk S) (G:GD S F R (A++(X++b::T))) (h:TInv S X b T Y) {i:Nat} (hi:i<X.length) {x:Int} (h2:2≤x) (hx:inW (Y.drop i++T) x):
 ∃k,∃hk:k<F.length,∃q,Pnt S q∧∀p,Pnt S p→sayL (Y.drop i++T) x p=F[k] (mixP (A.map (·.1)++b.1::(X.take i).map (·.1)) q p):=by
 have w:Wf S (X++b::T):=G.wf.tail
 obtain⟨t,c,ht,hc,hs⟩:=h.org i hi x h2 hx
 have wi:Wf S (X.drop i++b::T):=w.drop i
 have wb:Wf S (b::T):=w.tail
 have hcb:(c:Int)<S.getD b.1.toNat 0:=by show(c:Int)<szL S b.1;omega
 have ht2:2≤t:=by
  rcases Int.lt_or_le t 2 with h1|h1
  ·exfalso
   have h0:=ht.1
   rcases (by omega:t=0∨t=1) with e|e
   ·subst e
    exact low_const hS (h.wf.drop i) hx h2 (fun p hp=>(hs p hp).trans (say_const wi (hp.upd hcb)).1)
   ·subst e
    exact low_const hS (h.wf.drop i) hx h2 (fun p hp=>(hs p hp).trans (say_const wi (hp.upd hcb)).2)
  ·exact h1
 have eX:A++(X++b::T)=(A++X.take i)++X[i]::(X.drop (i+1)++b::T):=by
  rw[List.append_assoc]
  congr 1
  rw[←List.cons_append,←drop_cons hi,←List.append_assoc,List.take_append_drop]
 rw[drop_cons hi] at ht
 obtain⟨k,hk,q,hq,hr⟩:=G.rch _ _ _ eX t ht2 ht.2
 refine⟨k,hk,upd q b.1.toNat c,hq.upd hcb,fun p hp=>?_⟩
 rw[hs p hp,drop_cons hi]
 refine(hr _ (hp.upd hcb)).trans ?_
 rw[mix_upd (o':=A.map (·.1)++b.1::(X.take i).map (·.1)) wb.1.ge]
 ·have hnd:=G.wf.nodup
  rw[List.map_append,List.map_append,List.map_cons] at hnd
  intro hm
  rw[List.map_append,List.mem_append] at hm
  rcases hm with hm|hm
  ·have:=(List.nodup_append.1 hnd).2.2 _ hm b.1 (by simp)
   exact this rfl
  ·have h3:=(List.nodup_append.1 (List.nodup_append.1 hnd).2.1).2.2 b.1 ?_ b.1 (by simp)
   ·exact h3 rfl
   ·obtain⟨l,hl,e⟩:=List.mem_map.1 hm
    exact List.mem_map.2 ⟨l,List.mem_of_mem_take hl,e⟩
 ·intro l
  simp only[List.map_append,List.mem_append,List.mem_cons]
  constructor
  ·rintro(h1|h1|h1)
   ·exact .inr (.inl h1)
   ·exact .inl h1
   ·exact .inr (.inr h1)
  ·rintro(h1|h1|h1)
   ·exact .inr (.inl h1)
   ·exact .inl h1
   ·exact .inr (.inr h1)
theorem lift_good (hS:SzOk S) (G:GD S F R (A++(X++b::T))) (h:TInv S X b T Y) {fr:List (List Rn)} (hl:fr.length=wid (X++b::T)) (hf:∀t (ht:t<fr.length),∃x,fr[t]=rlN x (szL S b.1).toNat∧SplOk S X b T Y 0 (t:Int) x):GD S F R (A++(b.1,fr)::(Y++T)):=by
 have w:Wf S (X++b::T):=G.wf.tail
 have wb:Wf S (b::T):=w.tail
 have hnd:=w.nodup
 rw[List.map_append,List.map_cons] at hnd
 have hs:=hS.at wb.1.ge wb.1.lt
 have hsame:∀(x:Int),inW (X++b::T) x→∀p,Pnt S p→sayL ((b.1,fr)::(Y++T)) x p=sayL (X++b::T) x p:=fun x hx p hp=>by
  have h0:=hx.1
  have h1:=hx.2
  have ht:x.toNat<fr.length:=by omega
  obtain⟨g,e,hg⟩:=hf _ ht
  have hpb:=hp.at wb.1.ge wb.1.lt
  have e1:fr.getD x.toNat []=rlN g (szL S b.1).toNat:=by rw[List.getD_eq_getElem?_getD,List.getElem?_eq_getElem ht];exact e
  simp only[sayL]
  rw[e1,goR_rlN _ _ _ (by omega:p b.1.toNat<_)]
  have:=(hg (p b.1.toNat) (by omega)).2 p hp
  rw[upd_self,Int.toNat_of_nonneg h0] at this
  exact this
 have wN:Wf S ((b.1,fr)::(Y++T)):=by
  have hrow:∀(t:Nat) (ht:t<fr.length) (z:Int) (c0:Bool),inW (Y++T) z→(∀p,Pnt S p→sayL (Y++T) z p=c0)→(∀p,Pnt S p→sayL (X++b::T) (t:Int) p=c0)→fr[t]=[(szL S b.1,z)]:=fun t ht z c0 hz h1 h2=>by
   obtain⟨g,e,hg⟩:=hf t ht
   rw[e,←row_const hs.1 z]
   refine rlN_congr _ (fun c hc=>?_)
   refine say_ne hS h.wf (hg c hc).1 hz (fun p hp=>?_)
   have hcb:(c:Int)<S.getD b.1.toNat 0:=by show(c:Int)<szL S b.1;omega
   exact((hg c hc).2 p hp).trans ((h2 _ (hp.upd hcb)).trans (h1 p hp).symm)
  have h2:=w.two
  refine⟨⟨wb.1.ge,wb.1.lt,?_,?_,?_,fun r hr=>?_⟩,?_,h.wf⟩
  ·show fr[0]? =_
   rw[List.getElem?_eq_getElem (by omega),hrow 0 (by omega) 0 false h.wf.zero (fun p hp=>(say_const h.wf hp).1) (fun p hp=>(say_const w hp).1)]
  ·show fr[1]? =_
   rw[List.getElem?_eq_getElem (by omega),hrow 1 (by omega) 1 true h.wf.one (fun p hp=>(say_const h.wf hp).2) (fun p hp=>(say_const w hp).2)]
  ·refine List.pairwise_iff_getElem.2 (fun i j hi hj hij e=>?_)
   have hi':i<fr.length:=hi
   have hj':j<fr.length:=hj
   have:=say_ne hS w (x:=(i:Int)) (y:=(j:Int)) ⟨by omega,by omega⟩ ⟨by omega,by omega⟩ (fun p hp=>by
    rw[←hsame _ ⟨by omega,by omega⟩ p hp,←hsame _ ⟨by omega,by omega⟩ p hp]
    simp only[sayL]
    have e':fr[i]=fr[j]:=e
    simp only[Int.toNat_natCast,List.getD_eq_getElem?_getD]
    rw[List.getElem?_eq_getElem hi',List.getElem?_eq_getElem hj',e'])
   omega
  ·obtain⟨t,ht,rfl⟩:=List.getElem_of_mem hr
   obtain⟨g,e,hg⟩:=hf t ht
   exact⟨g,e,fun c hc=>(hg c hc).1⟩
  ·intro hm
   rw[List.map_append,h.lv,List.mem_append] at hm
   rcases hm with hm|hm
   ·exact(List.nodup_append.1 hnd).2.2 _ hm b.1 (by simp) rfl
   ·exact(List.nodup_cons.1 (List.nodup_append.1 hnd).2.1).1 hm
 have hlen:Y.length=X.length:=h.len
 refine⟨Wf.app G.wf wN (by show _≤fr.length;omega) (fun lv hlv=>?_),?_,G.rl,fun k hk=>?_,fun A' l T' e x h2 hx=>?_⟩
 ·simp only[List.map_cons,List.map_append,List.mem_cons,List.mem_append,h.lv] at hlv ⊢
  rcases hlv with h1|h1|h1
  ·exact .inr (.inl h1)
  ·exact .inl h1
  ·exact .inr (.inr h1)
 ·have:=G.len
  simp only[List.length_append,List.length_cons] at this ⊢
  omega
 ·obtain⟨h1,h2⟩:=G.rt k hk
  refine⟨⟨h1.1,?_⟩,fun p hp=>?_⟩
  ·have:=h1.2
   have:=wid_app (L:=X++b::T) (T:=(b.1,fr)::(Y++T)) (by show _≤fr.length;omega) A
   omega
  ·rw[say_app G.wf hp (fun x hx=>hsame x hx p hp) h1]
   exact h2 p hp
 ·rcases List.append_eq_append_iff.1 e with⟨C,rfl,e2⟩|⟨C,rfl,e2⟩
  ·cases C with
   |nil=>
    simp only[List.nil_append,List.cons.injEq] at e2
    obtain⟨rfl,rfl⟩:=e2
    simp only[List.append_nil]
    cases hX:X++b::T with
    |nil=>simp at hX
    |cons l0 L0=>
     have hx':x<(l0.2.length:Int):=by
      have h3:x<(fr.length:Int):=hx
      rw[hl,hX] at h3
      exact h3
     obtain⟨k,hk,q,hq,hr⟩:=G.rch A l0 L0 (by rw[hX]) x h2 hx'
     refine⟨k,hk,q,hq,fun p hp=>?_⟩
     rw[hsame x (by rw[hX];exact⟨by omega,hx'⟩) p hp,hX]
     exact hr p hp
   |cons c0 C=>
    simp only[List.cons_append,List.cons.injEq] at e2
    obtain⟨rfl,e3⟩:=e2
    rcases List.append_eq_append_iff.1 e3 with⟨C2,rfl,e4⟩|⟨C2,rfl,e4⟩
    · /- behind the tables -/
      obtain⟨k,hk,q,hq,hr⟩:=G.rch (A++(X++b::C2)) l T' (by rw[e4];simp) x h2 hx
      refine⟨k,hk,q,hq,fun p hp=>(hr p hp).trans ?_⟩
      refine congrArg _ (mix_perm (fun lv=>?_))
      simp only[List.map_append,List.map_cons,List.mem_append,List.mem_cons,h.lv]
      constructor
      ·rintro(h1|h1|h1|h1)
       ·exact .inl h1
       ·exact .inr (.inr (.inl h1))
       ·exact .inr (.inl h1)
       ·exact .inr (.inr (.inr h1))
      ·rintro(h1|h1|h1|h1)
       ·exact .inl h1
       ·exact .inr (.inr (.inl h1))
       ·exact .inr (.inl h1)
       ·exact .inr (.inr (.inr h1))
    ·cases C2 with
     |nil=>
      simp only[List.nil_append] at e4
      rw[List.append_nil] at h hlen
      obtain⟨k,hk,q,hq,hr⟩:=G.rch (A++(X++[b])) l T' (by rw[←e4];simp) x h2 hx
      refine⟨k,hk,q,hq,fun p hp=>(hr p hp).trans ?_⟩
      refine congrArg _ (mix_perm (fun lv=>?_))
      simp only[List.map_append,List.map_cons,List.mem_append,List.mem_cons,h.lv,List.map_nil,List.not_mem_nil,or_false]
      constructor
      ·rintro(h1|h1|h1)
       ·exact .inl h1
       ·exact .inr (.inr h1)
       ·exact .inr (.inl h1)
      ·rintro(h1|h1|h1)
       ·exact .inl h1
       ·exact .inr (.inr h1)
       ·exact .inr (.inl h1)
     |cons c1 C2=>
      simp only[List.cons_append,List.cons.injEq] at e4
      obtain⟨rfl,rfl⟩:=e4
      have hi:C.length<X.length:=by rw[←hlen];simp
      have hd:(C++l::C2).drop C.length=l::C2:=List.drop_left' rfl
      obtain⟨k,hk,q,hq,hr⟩:=h.reach hS G hi h2 (x:=x) (by rw[hd];exact⟨by omega,hx⟩)
      rw[hd] at hr
      refine⟨k,hk,q,hq,fun p hp=>(hr p hp).trans ?_⟩
      have elv:(X.take C.length).map (·.1)=C.map (·.1):=by
       have:=congrArg (List.take C.length) h.lv
       rw[←List.map_take,←List.map_take,List.take_left' rfl] at this
       exact this.symm
      rw[elv]
      simp
  ·cases C with
   |nil=>
    simp only[List.nil_append,List.cons.injEq] at e2
    obtain⟨rfl,rfl⟩:=e2
    cases hX:X++b::T with
    |nil=>simp at hX
    |cons l0 L0=>
     have hx':x<(l0.2.length:Int):=by
      have h3:x<(fr.length:Int):=hx
      rw[hl,hX] at h3
      exact h3
     obtain⟨k,hk,q,hq,hr⟩:=G.rch A' l0 L0 (by rw[hX];simp) x h2 hx'
     refine⟨k,hk,q,hq,fun p hp=>?_⟩
     rw[hsame x (by rw[hX];exact⟨by omega,hx'⟩) p hp,hX]
     exact hr p hp
   |cons c0 C=>
    simp only[List.cons_append,List.cons.injEq] at e2
    obtain⟨rfl,rfl⟩:=e2
    obtain⟨k,hk,q,hq,hr⟩:=G.rch A' l (C++(X++b::T)) (by simp) x h2 hx
    refine⟨k,hk,q,hq,fun p hp=>?_⟩
    have w1:Wf S (l::C++(X++b::T)):=by
     have:=G.wf
     rw[List.append_assoc] at this
     exact this.tail
    have:=say_app (A:=l::C) (T:=(b.1,fr)::(Y++T)) w1 hp (fun x hx=>hsame x hx p hp) (x:=x) ⟨by omega,hx⟩
    exact this.trans (hr p hp)
theorem TInv.few (hS:SzOk S) (h:TInv S X b T Y) {i:Nat} (hi:i<X.length):wid (Y.drop i++T)≤2+wid (X.drop i++b::T)*(szL S b.1).toNat:=by
 have wi:=h.wf.drop i
 have:=pigR (R:=fun(x:Nat) (tc:Nat×Nat)=>∀p,Pnt S p→sayL (Y.drop i++T) ((x:Int)+2) p=sayL (X.drop i++b::T) (tc.1:Int) (upd p b.1.toNat tc.2)) (List.range (wid (Y.drop i++T)-2)) (pairs (wid (X.drop i++b::T)) (szL S b.1).toNat) List.nodup_range (fun x hx=>by
  have hx':=List.mem_range.1 hx
  obtain⟨t,c,h1,h2,h3⟩:=h.org i hi ((x:Int)+2) (by omega) ⟨by omega,by omega⟩
  refine⟨(t.toNat,c),pairs_mem (by have:=h1.1;have:=h1.2;omega) h2,fun p hp=>?_⟩
  rw[h3 p hp,Int.toNat_of_nonneg h1.1]) (fun x hx y hy b' h1 h2=>by
  have hx':=List.mem_range.1 hx
  have hy':=List.mem_range.1 hy
  have:=say_ne hS wi (x:=(x:Int)+2) (y:=(y:Int)+2) ⟨by omega,by omega⟩ ⟨by omega,by omega⟩ (fun p hp=>(h1 p hp).trans (h2 p hp).symm)
  omega)
 rw[List.length_range,pairs_length] at this
 omega
end
end Go.Proofs.Ytnddhkhmbjeefaa

