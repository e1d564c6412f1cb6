/-
  A lifted diagram says what it said; rows of its tables are no more than pairs of an old row and a class. In pure words; of no program: no condition.
-/
import Derived.Test.YtnddhkhmbjeefaaB11
import Derived.Test.YtnddhkhmbjeefaaB09
namespace Go.Proofs.Ytnddhkhmbjeefaa
open Go.RowKit
theorem pigR {α β:Type} {R:α→β→Prop}:∀(A:List α) (B:List β),A.Nodup→(∀a∈A,∃b∈B,R a b)→(∀a∈A,∀a'∈A,∀b,R a b→R a' b→a=a')→A.length≤B.length
 |[],_,_,_,_=>Nat.zero_le _
 |a::A,B,hn,h,hi=>by
  obtain⟨b,hb,r⟩:=h a (by simp)
  obtain⟨B1,B2,rfl⟩:=List.append_of_mem hb
  have hn':=List.nodup_cons.1 hn
  have:=pigR A (B1++B2) hn'.2 (fun a' ha'=>by
   obtain⟨b',hb',r'⟩:=h a' (by simp[ha'])
   refine⟨b',?_,r'⟩
   rw[List.mem_append,List.mem_cons] at hb'
   rcases hb' with h1|rfl|h1
   ·exact List.mem_append_left _ h1
   ·have:=hi a (by simp) a' (by simp[ha']) _ r r'
    subst this
    exact absurd ha' hn'.1
   ·exact List.mem_append_right _ h1) (fun a1 h1 a2 h2=>hi a1 (by simp[h1]) a2 (by simp[h2]))
  simp only[List.length_append,List.length_cons] at *
  omega
def pairs (n m:Nat):List (Nat×Nat):=(List.range n).flatMap fun t=>(List.range m).map fun c=>(t,c)
theorem pairs_length (n m:Nat):(pairs n m).length=n*m:=by
 unfold pairs
 induction n with
 |zero=>simp
 |succ n ih=>rw[List.range_succ,List.flatMap_append,List.length_append,ih,Nat.succ_mul];simp
theorem pairs_mem {n m t c:Nat} (ht:t<n) (hc:c<m):(t,c)∈pairs n m:=List.mem_flatMap.2 ⟨t,List.mem_range.2 ht,List.mem_map.2 ⟨c,List.mem_range.2 hc,rfl⟩⟩
section
variable {S:List Int} {X Y A T:List Lay} {b:Lay} {p q:Nat→Nat} {F:List Phi} {R:List Int}
theorem upd_self (p:Nat→Nat) (l:Nat):upd p l (p l)=p:=by
 funext j
 unfold upd
 split
 ·rename_i e;rw[e]
 ·rfl
def tab0 (S:List Int) (X:List Lay):List Lay:=X.map fun l=>(l.1,[[(szL S l.1,0)],[(szL S l.1,1)]])
theorem row_const {s:Int} (h:1≤s) (z:Int):rlN (fun _=>z) s.toNat=[(s,z)]:=by
 rw[rlN_const (fun _ _=>rfl) (by omega)]
 congr 2
 omega
theorem tab0_wf (hS:SzOk S):∀ {X:List Lay},Wf S (X++b::T)→Wf S (tab0 S X++T)
 |[],w=>w.2.2
 |l::X,w=>by
  have w':LayOk S l (wid (X++b::T))∧l.1∉(X++b::T).map (·.1)∧Wf S (X++b::T):=w
  have ih:=tab0_wf hS w'.2.2
  have hs:=hS.at w'.1.ge w'.1.lt
  have h2:=ih.two
  refine(show LayOk S (l.1,[[(szL S l.1,0)],[(szL S l.1,1)]]) (wid (tab0 S X++T))∧l.1∉(tab0 S X++T).map (·.1)∧Wf S (tab0 S X++T) from⟨⟨w'.1.ge,w'.1.lt,rfl,rfl,?_,fun r hr=>?_⟩,fun hn=>w'.2.1 ?_,ih⟩)
  ·refine List.nodup_cons.2 ⟨?_,List.nodup_cons.2 ⟨by simp,List.nodup_nil⟩⟩
   simp
  ·simp only[List.mem_cons,List.not_mem_nil,or_false] at hr
   rcases hr with rfl|rfl
   ·exact⟨fun _=>0,(row_const hs.1 0).symm,fun c _=>⟨show(0:Int)≤0 by omega,show(0:Int)<_ by omega⟩⟩
   ·exact⟨fun _=>1,(row_const hs.1 1).symm,fun c _=>⟨show(0:Int)≤1 by omega,show(1:Int)<_ by omega⟩⟩
  ·rw[List.map_append,List.mem_append] at hn ⊢
   rcases hn with hn|hn
   ·left
    simpa [tab0] using hn
   ·exact .inr (by simp only[List.map_cons,List.mem_cons];exact .inr hn)
theorem TInv.start (hS:SzOk S) (w:Wf S (X++b::T)):TInv S X b T (tab0 S X):=by
 refine⟨by simp[tab0],tab0_wf hS w,fun i hi x hx hxW=>?_⟩
 have e:(tab0 S X).drop i=(fun l:Lay=>(l.1,[[(szL S l.1,0)],[(szL S l.1,1)]])) X[i]::(tab0 S X).drop (i+1):=by
  rw[drop_cons (by simpa [tab0] using hi)]
  simp[tab0]
 rw[e] at hxW
 have h2:x<((2:Nat):Int):=hxW.2
 omega
theorem low_const (hS:SzOk S) {L:List Lay} (w:Wf S L) {x:Int} (hx:inW L x) (h2:2≤x) {z:Bool} (h:∀p,Pnt S p→sayL L x p=z):False:=by
 cases z
 ·have:=say_ne hS w hx w.zero (fun p hp=>(h p hp).trans (say_const w hp).1.symm)
  omega
 ·have:=say_ne hS w hx w.one (fun p hp=>(h p hp).trans (say_const w hp).2.symm)
  omega
theorem mix_upd {o o':List Int} {lv:Int} (h0:0≤lv) (hn:lv∉o) (ho:∀l,l∈o'↔l=lv∨l∈o) {c:Nat}:mixP o q (upd p lv.toNat c)=mixP o' (upd q lv.toNat c) p:=by
 funext j
 unfold mixP
 by_cases hj:(j:Int)∈o
 ·have hne:j≠lv.toNat:=fun e=>hn (by have:(j:Int)=lv:=by omega
                                     rw[←this];exact hj)
  rw[if_pos hj,if_pos ((ho _).2 (.inr hj)),upd_ne q c hne]
 ·by_cases e:(j:Int)=lv
  ·have e':j=lv.toNat:=by omega
   rw[if_neg hj,if_pos ((ho _).2 (.inl e)),e',upd_at,upd_at]
  ·have hne:j≠lv.toNat:=fun h=>e (by omega)
   rw[if_neg hj,if_neg (fun h=>((ho _).1 h).elim e hj),upd_ne p c hne]
theorem TInv.reach (hS:SzOk S) (G:GD S F R (A++(X++b::T))) (h:TInv S X b T Y) {i:Nat} (hi:i<X.length) {x:Int} (h2:2≤x) (hx:inW (Y.drop i++T) x):
 ∃k,∃hk:k<F.length,∃q,Pnt S q∧∀p,Pnt S p→sayL (Y.drop i++T) x p=F[k] (mixP (A.map (·.1)++b.1::(X.take i).map (·.1)) q p):=by
 have w:Wf S (X++b::T):=G.wf.tail
 obtain⟨t,c,ht,hc,hs⟩:=h.org i hi x h2 hx
 have wi:Wf S (X.drop i++b::T):=w.drop i
 have wb:Wf S (b::T):=w.tail
 have hcb:(c:Int)<S.getD b.1.toNat 0:=by show(c:Int)<szL S b.1;omega
 have ht2:2≤t:=by
  rcases Int.lt_or_le t 2 with h1|h1
  ·exfalso
   have h0:=ht.1
   rcases (by omega:t=0∨t=1) with e|e
   ·subst e
    exact low_const hS (h.wf.drop i) hx h2 (fun p hp=>(hs p hp).trans (say_const wi (hp.upd hcb)).1)
   ·subst e
    exact low_const hS (h.wf.drop i) hx h2 (fun p hp=>(hs p hp).trans (say_const wi (hp.upd hcb)).2)
  ·exact h1
 have eX:A++(X++b::T)=(A++X.take i)++X[i]::(X.drop (i+1)++b::T):=by
  rw[List.append_assoc]
  congr 1
  rw[←List.cons_append,←drop_cons hi,←List.append_assoc,List.take_append_drop]
 rw[drop_cons hi] at ht
 obtain⟨k,hk,q,hq,hr⟩:=G.rch _ _ _ eX t ht2 ht.2
 refine⟨k,hk,upd q b.1.toNat c,hq.upd hcb,fun p hp=>?_⟩
 rw[hs p hp,drop_cons hi]
 refine(hr _ (hp.upd hcb)).trans ?_
 rw[mix_upd (o':=A.map (·.1)++b.1::(X.take i).map (·.1)) wb.1.ge]
 ·have hnd:=G.wf.nodup
  rw[List.map_append,List.map_append,List.map_cons] at hnd
  intro hm
  rw[List.map_append,List.mem_append] at hm
  rcases hm with hm|hm
  ·have:=(List.nodup_append.1 hnd).2.2 _ hm b.1 (by simp)
   exact this rfl
  ·have h3:=(List.nodup_append.1 (List.nodup_append.1 hnd).2.1).2.2 b.1 ?_ b.1 (by simp)
   ·exact h3 rfl
   ·obtain⟨l,hl,e⟩:=List.mem_map.1 hm
    exact List.mem_map.2 ⟨l,List.mem_of_mem_take hl,e⟩
 ·intro l
  simp only[List.map_append,List.mem_append,List.mem_cons]
  constructor
  ·rintro(h1|h1|h1)
   ·exact .inr (.inl h1)
   ·exact .inl h1
   ·exact .inr (.inr h1)
  ·rintro(h1|h1|h1)
   ·exact .inr (.inl h1)
   ·exact .inl h1
   ·exact .inr (.inr h1)
theorem lift_good (hS:SzOk S) (G:GD S F R (A++(X++b::T))) (h:TInv S X b T Y) {fr:List (List Rn)} (hl:fr.length=wid (X++b::T)) (hf:∀t (ht:t<fr.length),∃x,fr[t]=rlN x (szL S b.1).toNat∧SplOk S X b T Y 0 (t:Int) x):GD S F R (A++(b.1,fr)::(Y++T)):=by
 have w:Wf S (X++b::T):=G.wf.tail
 have wb:Wf S (b::T):=w.tail
 have hnd:=w.nodup
 rw[List.map_append,List.map_cons] at hnd
 have hs:=hS.at wb.1.ge wb.1.lt
 have hsame:∀(x:Int),inW (X++b::T) x→∀p,Pnt S p→sayL ((b.1,fr)::(Y++T)) x p=sayL (X++b::T) x p:=fun x hx p hp=>by
  have h0:=hx.1
  have h1:=hx.2
  have ht:x.toNat<fr.length:=by omega
  obtain⟨g,e,hg⟩:=hf _ ht
  have hpb:=hp.at wb.1.ge wb.1.lt
  have e1:fr.getD x.toNat []=rlN g (szL S b.1).toNat:=by rw[List.getD_eq_getElem?_getD,List.getElem?_eq_getElem ht];exact e
  simp only[sayL]
  rw[e1,goR_rlN _ _ _ (by omega:p b.1.toNat<_)]
  have:=(hg (p b.1.toNat) (by omega)).2 p hp
  rw[upd_self,Int.toNat_of_nonneg h0] at this
  exact this
 have wN:Wf S ((b.1,fr)::(Y++T)):=by
  have hrow:∀(t:Nat) (ht:t<fr.length) (z:Int) (c0:Bool),inW (Y++T) z→(∀p,Pnt S p→sayL (Y++T) z p=c0)→(∀p,Pnt S p→sayL (X++b::T) (t:Int) p=c0)→fr[t]=[(szL S b.1,z)]:=fun t ht z c0 hz h1 h2=>by
   obtain⟨g,e,hg⟩:=hf t ht
   rw[e,←row_const hs.1 z]
   refine rlN_congr _ (fun c hc=>?_)
   refine say_ne hS h.wf (hg c hc).1 hz (fun p hp=>?_)
   have hcb:(c:Int)<S.getD b.1.toNat 0:=by show(c:Int)<szL S b.1;omega
   exact((hg c hc).2 p hp).trans ((h2 _ (hp.upd hcb)).trans (h1 p hp).symm)
  have h2:=w.two
  refine⟨⟨wb.1.ge,wb.1.lt,?_,?_,?_,fun r hr=>?_⟩,?_,h.wf⟩
  ·show fr[0]? =_
   rw[List.getElem?_eq_getElem (by omega),hrow 0 (by omega) 0 false h.wf.zero (fun p hp=>(say_const h.wf hp).1) (fun p hp=>(say_const w hp).1)]
  ·show fr[1]? =_
   rw[List.getElem?_eq_getElem (by omega),hrow 1 (by omega) 1 true h.wf.one (fun p hp=>(say_const h.wf hp).2) (fun p hp=>(say_const w hp).2)]
  ·refine List.pairwise_iff_getElem.2 (fun i j hi hj hij e=>?_)
   have hi':i<fr.length:=hi
   have hj':j<fr.length:=hj
   have:=say_ne hS w (x:=(i:Int)) (y:=(j:Int)) ⟨by omega,by omega⟩ ⟨by omega,by omega⟩ (fun p hp=>by
    rw[←hsame _ ⟨by omega,by omega⟩ p hp,←hsame _ ⟨by omega,by omega⟩ p hp]
    simp only[sayL]
    have e':fr[i]=fr[j]:=e
    simp only[Int.toNat_natCast,List.getD_eq_getElem?_getD]
    rw[List.getElem?_eq_getElem hi',List.getElem?_eq_getElem hj',e'])
   omega
  ·obtain⟨t,ht,rfl⟩:=List.getElem_of_mem hr
   obtain⟨g,e,hg⟩:=hf t ht
   exact⟨g,e,fun c hc=>(hg c hc).1⟩
  ·intro hm
   rw[List.map_append,h.lv,List.mem_append] at hm
   rcases hm with hm|hm
   ·exact(List.nodup_append.1 hnd).2.2 _ hm b.1 (by simp) rfl
   ·exact(List.nodup_cons.1 (List.nodup_append.1 hnd).2.1).1 hm
 have hlen:Y.length=X.length:=h.len
 refine⟨Wf.app G.wf wN (by show _≤fr.length;omega) (fun lv hlv=>?_),?_,G.rl,fun k hk=>?_,fun A' l T' e x h2 hx=>?_⟩
 ·simp only[List.map_cons,List.map_append,List.mem_cons,List.mem_append,h.lv] at hlv ⊢
  rcases hlv with h1|h1|h1
  ·exact .inr (.inl h1)
  ·exact .inl h1
  ·exact .inr (.inr h1)
 ·have:=G.len
  simp only[List.length_append,List.length_cons] at this ⊢
  omega
 ·obtain⟨h1,h2⟩:=G.rt k hk
  refine⟨⟨h1.1,?_⟩,fun p hp=>?_⟩
  ·have:=h1.2
   have:=wid_app (L:=X++b::T) (T:=(b.1,fr)::(Y++T)) (by show _≤fr.length;omega) A
   omega
  ·rw[say_app G.wf hp (fun x hx=>hsame x hx p hp) h1]
   exact h2 p hp
 ·rcases List.append_eq_append_iff.1 e with⟨C,rfl,e2⟩|⟨C,rfl,e2⟩
  ·cases C with
   |nil=>
    simp only[List.nil_append,List.cons.injEq] at e2
    obtain⟨rfl,rfl⟩:=e2
    simp only[List.append_nil]
    cases hX:X++b::T with
    |nil=>simp at hX
    |cons l0 L0=>
     have hx':x<(l0.2.length:Int):=by
      have h3:x<(fr.length:Int):=hx
      rw[hl,hX] at h3
      exact h3
     obtain⟨k,hk,q,hq,hr⟩:=G.rch A l0 L0 (by rw[hX]) x h2 hx'
     refine⟨k,hk,q,hq,fun p hp=>?_⟩
     rw[hsame x (by rw[hX];exact⟨by omega,hx'⟩) p hp,hX]
     exact hr p hp
   |cons c0 C=>
    simp only[List.cons_append,List.cons.injEq] at e2
    obtain⟨rfl,e3⟩:=e2
    rcases List.append_eq_append_iff.1 e3 with⟨C2,rfl,e4⟩|⟨C2,rfl,e4⟩
    · /- behind the tables -/
      obtain⟨k,hk,q,hq,hr⟩:=G.rch (A++(X++b::C2)) l T' (by rw[e4];simp) x h2 hx
      refine⟨k,hk,q,hq,fun p hp=>(hr p hp).trans ?_⟩
      refine congrArg _ (mix_perm (fun lv=>?_))
      simp only[List.map_append,List.map_cons,List.mem_append,List.mem_cons,h.lv]
      constructor
      ·rintro(h1|h1|h1|h1)
       ·exact .inl h1
       ·exact .inr (.inr (.inl h1))
       ·exact .inr (.inl h1)
       ·exact .inr (.inr (.inr h1))
      ·rintro(h1|h1|h1|h1)
       ·exact .inl h1
       ·exact .inr (.inr (.inl h1))
       ·exact .inr (.inl h1)
       ·exact .inr (.inr (.inr h1))
    ·cases C2 with
     |nil=>
      simp only[List.nil_append] at e4
      rw[List.append_nil] at h hlen
      obtain⟨k,hk,q,hq,hr⟩:=G.rch (A++(X++[b])) l T' (by rw[←e4];simp) x h2 hx
      refine⟨k,hk,q,hq,fun p hp=>(hr p hp).trans ?_⟩
      refine congrArg _ (mix_perm (fun lv=>?_))
      simp only[List.map_append,List.map_cons,List.mem_append,List.mem_cons,h.lv,List.map_nil,List.not_mem_nil,or_false]
      constructor
      ·rintro(h1|h1|h1)
       ·exact .inl h1
       ·exact .inr (.inr h1)
       ·exact .inr (.inl h1)
      ·rintro(h1|h1|h1)
       ·exact .inl h1
       ·exact .inr (.inr h1)
       ·exact .inr (.inl h1)
     |cons c1 C2=>
      simp only[List.cons_append,List.cons.injEq] at e4
      obtain⟨rfl,rfl⟩:=e4
      have hi:C.length<X.length:=by rw[←hlen];simp
      have hd:(C++l::C2).drop C.length=l::C2:=List.drop_left' rfl
      obtain⟨k,hk,q,hq,hr⟩:=h.reach hS G hi h2 (x:=x) (by rw[hd];exact⟨by omega,hx⟩)
      rw[hd] at hr
      refine⟨k,hk,q,hq,fun p hp=>(hr p hp).trans ?_⟩
      have elv:(X.take C.length).map (·.1)=C.map (·.1):=by
       have:=congrArg (List.take C.length) h.lv
       rw[←List.map_take,←List.map_take,List.take_left' rfl] at this
       exact this.symm
      rw[elv]
      simp
  ·cases C with
   |nil=>
    simp only[List.nil_append,List.cons.injEq] at e2
    obtain⟨rfl,rfl⟩:=e2
    cases hX:X++b::T with
    |nil=>simp at hX
    |cons l0 L0=>
     have hx':x<(l0.2.length:Int):=by
      have h3:x<(fr.length:Int):=hx
      rw[hl,hX] at h3
      exact h3
     obtain⟨k,hk,q,hq,hr⟩:=G.rch A' l0 L0 (by rw[hX];simp) x h2 hx'
     refine⟨k,hk,q,hq,fun p hp=>?_⟩
     rw[hsame x (by rw[hX];exact⟨by omega,hx'⟩) p hp,hX]
     exact hr p hp
   |cons c0 C=>
    simp only[List.cons_append,List.cons.injEq] at e2
    obtain⟨rfl,rfl⟩:=e2
    obtain⟨k,hk,q,hq,hr⟩:=G.rch A' l (C++(X++b::T)) (by simp) x h2 hx
    refine⟨k,hk,q,hq,fun p hp=>?_⟩
    have w1:Wf S (l::C++(X++b::T)):=by
     have:=G.wf
     rw[List.append_assoc] at this
     exact this.tail
    have:=say_app (A:=l::C) (T:=(b.1,fr)::(Y++T)) w1 hp (fun x hx=>hsame x hx p hp) (x:=x) ⟨by omega,hx⟩
    exact this.trans (hr p hp)
theorem TInv.few (hS:SzOk S) (h:TInv S X b T Y) {i:Nat} (hi:i<X.length):wid (Y.drop i++T)≤2+wid (X.drop i++b::T)*(szL S b.1).toNat:=by
 have wi:=h.wf.drop i
 have:=pigR (R:=fun(x:Nat) (tc:Nat×Nat)=>∀p,Pnt S p→sayL (Y.drop i++T) ((x:Int)+2) p=sayL (X.drop i++b::T) (tc.1:Int) (upd p b.1.toNat tc.2)) (List.range (wid (Y.drop i++T)-2)) (pairs (wid (X.drop i++b::T)) (szL S b.1).toNat) List.nodup_range (fun x hx=>by
  have hx':=List.mem_range.1 hx
  obtain⟨t,c,h1,h2,h3⟩:=h.org i hi ((x:Int)+2) (by omega) ⟨by omega,by omega⟩
  refine⟨(t.toNat,c),pairs_mem (by have:=h1.1;have:=h1.2;omega) h2,fun p hp=>?_⟩
  rw[h3 p hp,Int.toNat_of_nonneg h1.1]) (fun x hx y hy b' h1 h2=>by
  have hx':=List.mem_range.1 hx
  have hy':=List.mem_range.1 hy
  have:=say_ne hS wi (x:=(x:Int)+2) (y:=(y:Int)+2) ⟨by omega,by omega⟩ ⟨by omega,by omega⟩ (fun p hp=>(h1 p hp).trans (h2 p hp).symm)
  omega)
 rw[List.length_range,pairs_length] at this
 omega
end
end Go.Proofs.Ytnddhkhmbjeefaa
namespace Go.Proofs.Ytnddhkhmbjeefaa
open Go.RowKit Go.Lib Go.Maps
structure LA where
 lv:Int
 rb:Nat
 rc:Nat
 Rs:List RD
def LA.lay (x:LA):Lay:=(x.lv,rdR x.Rs)
abbrev layL (Ls:List LA):List Lay:=Ls.map LA.lay
structure RowsB (w:World) (B:Nat) (x:LA):Prop where
 blk:∃cs,w.heap[x.rb]? =some (.cells cs 102 (0,0))∧∀i (h:i<x.Rs.length),cs[i]? =some (x.Rs[i]).v
 lt:x.rb<B
 row:∀y∈x.Rs,RwB w y.b y.r∧RdF y∧y.b<B
 few:x.Rs.length≤1073741824
structure LaysAt (w:World) (B b o:Nat) (Ls:List LA):Prop where
 lt:b<B
 cl:∀i (h:i<Ls.length),w.cell? ⟨b,(o+i)*2,none⟩=some (.int .i64 (Ls[i]).lv)∧w.cell? ⟨b,(o+i)*2+1,none⟩=some (.slice (some ⟨(Ls[i]).rb,0,none⟩) (Ls[i]).Rs.length (Ls[i]).rc)
 ly:∀x∈Ls,RowsB w B x
section
variable {w w':World} {B b o:Nat} {x:LA} {Ls:List LA}
theorem RowsB.below (h:RowsB w B x) (hb:Below B w w'):RowsB w' B x:=by
 obtain⟨cs,h1,h2⟩:=h.blk
 exact⟨⟨cs,(hb.block _ h.lt).trans h1,h2⟩,h.lt,fun y hy=>⟨(h.row y hy).1.belowN hb (h.row y hy).2.2,(h.row y hy).2⟩,h.few⟩
theorem RowsB.mono (h:RowsB w B x) {B':Nat} (hB:B≤B'):RowsB w B' x:=⟨h.blk,by have:=h.lt;omega,fun y hy=>⟨(h.row y hy).1,(h.row y hy).2.1,by have:=(h.row y hy).2.2;omega⟩,h.few⟩
theorem RowsB.cell (h:RowsB w B x) {i:Nat} (hi:i<x.Rs.length):w.cell? ⟨x.rb,i,none⟩=some (.slice (some ⟨(x.Rs[i]).b,0,none⟩) (x.Rs[i]).r.length (x.Rs[i]).c):=by
 obtain⟨cs,h1,h2⟩:=h.blk
 rw[cell_of_row w x.rb _ _ _ _ h1,h2 i hi]
 rfl
theorem LaysAt.below (h:LaysAt w B b o Ls) (hb:Below B w w'):LaysAt w' B b o Ls:=
 ⟨h.lt,fun i hi=>⟨(hb.cell (p:=⟨b,_,none⟩) h.lt).trans (h.cl i hi).1,(hb.cell (p:=⟨b,_,none⟩) h.lt).trans (h.cl i hi).2⟩,fun x hx=>(h.ly x hx).below hb⟩
theorem LaysAt.mono (h:LaysAt w B b o Ls) {B':Nat} (hB:B≤B'):LaysAt w B' b o Ls:=⟨by have:=h.lt;omega,h.cl,fun x hx=>(h.ly x hx).mono hB⟩
theorem LaysAt.part {A C D:List LA} (h:LaysAt w B b o (A++C++D)):LaysAt w B b (o+A.length) C:=by
 refine⟨h.lt,fun i hi=>?_,fun x hx=>h.ly x (by simp[hx])⟩
 have:=h.cl (A.length+i) (by simp;omega)
 have e:(A++C++D)[A.length+i]'(by simp;omega)=C[i]:=by
  rw[List.getElem_append_left (by simp;omega),List.getElem_append_right (by omega)]
  simp
 rw[e] at this
 rw[Nat.add_assoc]
 exact this
end
def KnB (w:World) (kb:Nat) (n:Nat) (K:Nat→Option RD):Prop:=∃cs,w.heap[kb]? =some (.cells cs 102 (0,0))∧cs.size=n∧∀i,i<n→cs[i]? =some (match K i with|none=>.slice none 0 0|some x=>x.v)
section
variable {w w':World} {kb n:Nat} {K:Nat→Option RD} {F:Nat→Prop}
theorem KnB.lt (h:KnB w kb n K):kb<w.heap.size:=by
 obtain⟨cs,h1,_⟩:=h
 exact lt_of_block h1
theorem KnB.kept (h:KnB w kb n K) (hk:Kept F w w') (hF:¬F kb):KnB w' kb n K:=by
 have hl:=h.lt
 obtain⟨cs,h1,h2⟩:=h
 exact⟨cs,(hk.block kb hl hF).trans h1,h2⟩
theorem KnB.below (h:KnB w kb n K) (x:Below w.heap.size w w'):KnB w' kb n K:=h.kept (F:=fun _=>False) (Kept.of_below x) (fun h=>h)
theorem KnB.cell (h:KnB w kb n K) {i:Nat} (hi:i<n):w.cell? ⟨kb,i,none⟩=some (match K i with|none=>.slice none 0 0|some x=>x.v)∧w.frozen? ⟨kb,i,none⟩=false:=by
 obtain⟨cs,h1,_,h2⟩:=h
 rw[cell_of_row w kb _ _ _ _ h1]
 exact⟨h2 i hi,frozen_of_row w kb i _ _ h1⟩
def setK (K:Nat→Option RD) (t:Nat) (x:RD):Nat→Option RD:=fun i=>if i=t then some x else K i
theorem KnB.set (h:KnB w kb n K) {t:Nat} (ht:t<n) (x:RD):KnB (w.setCell ⟨kb,t,none⟩ x.v) kb n (setK K t x):=by
 obtain⟨cs,h1,h2,h3⟩:=h
 refine⟨_,block_setCell h1 _ _,by simp[h2],fun i hi=>?_⟩
 by_cases e:i=t
 ·subst e
  simp[setK,Array.set!,Array.setIfInBounds,h2,hi]
 ·simp only[setK,if_neg e]
  rw[←h3 i hi]
  simp[Array.set!,Array.setIfInBounds]
  split
  ·rw[Array.getElem?_set_ne]
   exact fun h=>e h.symm
  ·rfl
theorem KnB.ty (h:KnB w kb n K):∃cs,w.heap[kb]? =some (.cells cs 102 (0,0)):=by
 obtain⟨cs,h1,_⟩:=h
 exact⟨cs,h1⟩
end
structure LfA where
 l:Nat
 ob:Nat
 oo:Nat
 oc:Nat
 kb:Nat
 kc:Nat
 mb:Nat
 mc:Nat
 tb:Nat→Nat
 kn:Nat→Nat
 kk:Nat→Nat
structure LfS (w:World) (B:Nat) (a:LfA) (X:List LA) (b:LA) (Y:List Lay) (K:Nat→Nat→Option RD) (P Q:Nat→Nat→Prop):Prop where
 blk:w.heap[a.l]? =some (.cells #[.slice (some ⟨a.ob,a.oo*2,none⟩) (X.length+1) a.oc,.slice (some ⟨a.kb,0,none⟩) X.length a.kc,.slice (some ⟨a.mb,0,none⟩) X.length a.mc] 117 (0,0))
 old:LaysAt w B a.ob a.oo (X++[b])
 kno:∃cs,w.heap[a.kb]? =some (.cells cs 98 (0,0))∧∀i (h:i<X.length),cs[i]? =some (.slice (some ⟨a.kn i,0,none⟩) (X[i]).Rs.length (a.kk i))
 knb:∀i (h:i<X.length),KnB w (a.kn i) (X[i]).Rs.length (K i)
 knr:∀i t x,i<X.length→K i t=some x→RwB w x.b x.r∧RdF x
 mad:∃cs,w.heap[a.mb]? =some (.cells cs 113 (0,0))∧∀i,i<X.length→cs[i]? =some (.pointer (some ⟨a.tb i,0,none⟩))
 tab:∀i,i<X.length→TbAt w (a.tb i) (Y.getD i (0,[])).2 (P i) (Q i)
 yl:Y.length=X.length
 apt:∀i j,i<X.length→j<X.length→i≠j→∀k,P i k→¬P j k
 kpt:∀i j,i<X.length→j<X.length→¬P j (a.kn i)
 kin:∀i j,i<X.length→j<X.length→a.kn i=a.kn j→i=j
 fx:∀j,j<X.length→¬P j a.l∧¬P j a.kb∧¬P j a.mb
 hi:∀j k,j<X.length→P j k→B≤k
 hk:∀j,j<X.length→B≤a.kn j
 hB:B≤w.heap.size
 hl:B≤a.l∧B≤a.kb∧B≤a.mb
def LfF (a:LfA) (n:Nat) (P:Nat→Nat→Prop):Nat→Prop:=fun k=>∃j,j<n∧(P j k∨k=a.kn j)
section
variable {w w':World} {B:Nat} {a:LfA} {X:List LA} {b:LA} {Y:List Lay} {K:Nat→Nat→Option RD} {P Q:Nat→Nat→Prop} {F:Nat→Prop}
theorem LfS.nor (h:LfS w B a X b Y K P Q):NoRun w (LfF a X.length P):=fun k hk cs e=>by
 obtain⟨j,hj,h1|h1⟩:=hk
 ·exact(h.tab j hj).nr k h1 cs e
 ·subst h1
  obtain⟨cs',h2⟩:=(h.knb j hj).ty
  exact ty_ne h2 e (by decide) rfl
theorem LfS.below (h:LfS w B a X b Y K P Q) (x:Below w.heap.size w w'):LfS w' B a X b Y K P Q:=by
 obtain⟨cs,k1,k2⟩:=h.kno
 obtain⟨ds,m1,m2⟩:=h.mad
 exact⟨(x.block _ (lt_of_block h.blk)).trans h.blk,h.old.below (x.mono h.hB),⟨cs,(x.block _ (lt_of_block k1)).trans k1,k2⟩,fun i hi=>(h.knb i hi).below x,fun i t y hi hy=>⟨(h.knr i t y hi hy).1.below x,(h.knr i t y hi hy).2⟩,⟨ds,(x.block _ (lt_of_block m1)).trans m1,m2⟩,fun i hi=>(h.tab i hi).below x,h.yl,h.apt,h.kpt,h.kin,h.fx,h.hi,h.hk,Nat.le_trans h.hB x.size,h.hl⟩
theorem LfS.cells (h:LfS w B a X b Y K P Q):w.cell? ⟨a.l,0,none⟩=some (.slice (some ⟨a.ob,a.oo*2,none⟩) (X.length+1) a.oc)∧w.cell? ⟨a.l,1,none⟩=some (.slice (some ⟨a.kb,0,none⟩) X.length a.kc)∧w.cell? ⟨a.l,2,none⟩=some (.slice (some ⟨a.mb,0,none⟩) X.length a.mc):=by
 refine⟨?_,?_,?_⟩<;>(rw[cell_of_row w a.l _ _ _ _ h.blk];rfl)
theorem LfS.kncell (h:LfS w B a X b Y K P Q) {i:Nat} (hi:i<X.length):w.cell? ⟨a.kb,i,none⟩=some (.slice (some ⟨a.kn i,0,none⟩) (X[i]).Rs.length (a.kk i))∧w.cell? ⟨a.mb,i,none⟩=some (.pointer (some ⟨a.tb i,0,none⟩)):=by
 obtain⟨cs,k1,k2⟩:=h.kno
 obtain⟨ds,m1,m2⟩:=h.mad
 rw[cell_of_row w a.kb _ _ _ _ k1,cell_of_row w a.mb _ _ _ _ m1]
 exact⟨k2 i hi,m2 i hi⟩
theorem LfS.size (h:LfS w B a X b Y K P Q):∀k,LfF a X.length P k→k<w.heap.size:=fun k hk=>by
 obtain⟨j,hj,h1|h1⟩:=hk
 ·exact(h.tab j hj).plt h1
 ·rw[h1];exact(h.knb j hj).lt
theorem LfS.kept (h:LfS w B a X b Y K P Q) (hk:Kept F w w') (hF:∀k,F k→B≤k∧¬LfF a X.length P k∧k≠a.l∧k≠a.kb∧k≠a.mb) (nr:NoRun w F):LfS w' B a X b Y K P Q:=by
 obtain⟨cs,k1,k2⟩:=h.kno
 obtain⟨ds,m1,m2⟩:=h.mad
 have bel:Below B w w':=hk.below h.hB (fun k hk=>(hF k hk).1)
 exact⟨(hk.block _ (lt_of_block h.blk) (fun e=>(hF _ e).2.2.1 rfl)).trans h.blk,h.old.below bel,⟨cs,(hk.block _ (lt_of_block k1) (fun e=>(hF _ e).2.2.2.1 rfl)).trans k1,k2⟩,fun j hj=>(h.knb j hj).kept hk (fun e=>(hF _ e).2.1 ⟨j,hj,.inr rfl⟩),fun j t y hj hy=>⟨(h.knr j t y hj hy).1.keptT hk nr,(h.knr j t y hj hy).2⟩,⟨ds,(hk.block _ (lt_of_block m1) (fun e=>(hF _ e).2.2.2.2 rfl)).trans m1,m2⟩,fun j hj=>(h.tab j hj).kept hk (fun k hp e=>(hF k e).2.1 ⟨j,hj,.inl hp⟩) nr,h.yl,h.apt,h.kpt,h.kin,h.fx,h.hi,h.hk,Nat.le_trans h.hB hk.size,h.hl⟩
theorem LfS.oldcell (h:LfS w B a X b Y K P Q) {i:Nat} {x:LA} (hx:(X++[b])[i]? =some x):w.cell? ⟨a.ob,a.oo*2+i*2+1,none⟩=some (.slice (some ⟨x.rb,0,none⟩) x.Rs.length x.rc)∧w.cell? ⟨a.ob,a.oo*2+i*2,none⟩=some (.int .i64 x.lv)∧RowsB w B x:=by
 have hi:i<(X++[b]).length:=by
  rcases Nat.lt_or_ge i (X++[b]).length with h1|h1
  ·exact h1
  ·rw[List.getElem?_eq_none h1] at hx;cases hx
 have c:=h.old.cl i hi
 rw[List.getElem?_eq_getElem hi] at hx
 injection hx with hx
 rw[hx,Nat.add_mul] at c
 exact⟨c.2,c.1,hx▸h.old.ly _ (List.getElem_mem hi)⟩
theorem LfS.turn (h:LfS w B a X b Y K P Q) {i:Nat} (hi:i<X.length) {bb:Nat} (hbb:∀j,j<X.length→¬P j bb∧a.kn j≠bb) (hbo:B≤bb) (hbt:∃cs,w.heap[bb]? =some (.cells cs 102 (0,0))) (hk:Kept (fun k=>P i k∨k=bb) w w') {T:List (List Rn)} {P' Q':Nat→Prop} (ht:TbAt w' (a.tb i) T P' Q') (hp:∀k,P' k→P i k∨w.heap.size≤k):
 LfS w' B a X b (Y.set i ((Y.getD i (0,[])).1,T)) K (fun j=>if j=i then P' else P j) (fun j=>if j=i then Q' else Q j):=by
 obtain⟨cs,k1,k2⟩:=h.kno
 obtain⟨ds,m1,m2⟩:=h.mad
 obtain⟨bs,hbs⟩:=hbt
 have nr:NoRun w (fun k=>P i k∨k=bb):=fun k hk cs e=>by
  rcases hk with hk|hk
  ·exact(h.tab i hi).nr k hk cs e
  ·subst hk;exact ty_ne hbs e (by decide) rfl
 have bel:Below B w w':=hk.below h.hB (fun k hk=>by
  rcases hk with hk|hk
  ·exact h.hi i k hi hk
  ·omega)
 have fx:=h.fx i hi
 refine⟨(hk.block _ (lt_of_block h.blk) (fun e=>e.elim fx.1 (fun e=>ty_ne h.blk hbs (by decide) e))).trans h.blk,h.old.below bel,⟨cs,(hk.block _ (lt_of_block k1) (fun e=>e.elim fx.2.1 (fun e=>ty_ne k1 hbs (by decide) e))).trans k1,k2⟩,fun j hj=>(h.knb j hj).kept hk (fun e=>e.elim (h.kpt j i hj hi) (hbb j hj).2),fun j t y hj hy=>⟨(h.knr j t y hj hy).1.keptT hk nr,(h.knr j t y hj hy).2⟩,⟨ds,(hk.block _ (lt_of_block m1) (fun e=>e.elim fx.2.2 (fun e=>ty_ne m1 hbs (by decide) e))).trans m1,m2⟩,fun j hj=>?_,by rw[List.length_set];exact h.yl,fun j1 j2 h1 h2 hne k hp1 hp2=>?_,fun j1 j2 h1 h2 hp1=>?_,h.kin,fun j hj=>?_,fun j k hj hp1=>?_,h.hk,Nat.le_trans h.hB hk.size,h.hl⟩
 ·by_cases e:j=i
  ·subst e
   simp only[↓reduceIte]
   rw[List.getD_eq_getElem?_getD,List.getElem?_set_self (by rw[h.yl];exact hj)]
   exact ht
  ·simp only[if_neg e]
   rw[List.getD_eq_getElem?_getD,List.getElem?_set_ne (fun h=>e h.symm),←List.getD_eq_getElem?_getD]
   exact(h.tab j hj).kept hk (fun k hp1 e1=>e1.elim (h.apt j i hj hi e k hp1) (fun e2=>(hbb j hj).1 (e2▸hp1))) nr
 ·have key:∀ {j k},j<X.length→j≠i→P j k→P' k→False:=fun {j k} hj hji h3 h4=>by
   rcases hp k h4 with h5|h5
   ·exact h.apt j i hj hi hji k h3 h5
   ·have:=(h.tab j hj).plt h3
    omega
  by_cases e1:j1=i
  ·by_cases e2:j2=i
   ·exact hne (e1.trans e2.symm)
   ·simp only[if_pos e1,if_neg e2] at hp1 hp2
    exact key h2 e2 hp2 hp1
  ·by_cases e2:j2=i
   ·simp only[if_neg e1,if_pos e2] at hp1 hp2
    exact key h1 e1 hp1 hp2
   ·simp only[if_neg e1,if_neg e2] at hp1 hp2
    exact h.apt j1 j2 h1 h2 hne k hp1 hp2
 ·by_cases e2:j2=i
  ·simp only[if_pos e2] at hp1
   rcases hp _ hp1 with h5|h5
   ·exact h.kpt j1 i h1 hi h5
   ·have:=(h.knb j1 h1).lt
    omega
  ·simp only[if_neg e2] at hp1
   exact h.kpt j1 j2 h1 h2 hp1
 ·by_cases e:j=i
  ·simp only[if_pos e]
   refine⟨fun h5=>?_,fun h5=>?_,fun h5=>?_⟩
   ·rcases hp _ h5 with h6|h6
    ·exact fx.1 h6
    ·have:=lt_of_block h.blk
     omega
   ·rcases hp _ h5 with h6|h6
    ·exact fx.2.1 h6
    ·have:=lt_of_block k1
     omega
   ·rcases hp _ h5 with h6|h6
    ·exact fx.2.2 h6
    ·have:=lt_of_block m1
     omega
  ·simp only[if_neg e]
   exact h.fx j hj
 ·by_cases e:j=i
  ·simp only[if_pos e] at hp1
   rcases hp _ hp1 with h6|h6
   ·exact h.hi i k hi h6
   ·have:=h.hB
    omega
  ·simp only[if_neg e] at hp1
   exact h.hi j k hj hp1
theorem LfS.know (h:LfS w B a X b Y K P Q) {i t:Nat} (hi:i<X.length) (ht:t<(X[i]).Rs.length) {x:RD} (hx:RwB w x.b x.r) (hf:RdF x) (hw:w'=w.setCell ⟨a.kn i,t,none⟩ x.v):
 LfS w' B a X b Y (fun j=>if j=i then setK (K i) t x else K j) P Q∧Kept (fun k=>k=a.kn i) w w':=by
 subst hw
 have hk:Kept (fun k=>k=a.kn i) w (w.setCell ⟨a.kn i,t,none⟩ x.v):=Kept.setCell (F:=fun k=>k=a.kn i) (p:=⟨a.kn i,t,none⟩) (Kept.refl _ _) rfl _
 obtain⟨bs,hbs⟩:=(h.knb i hi).ty
 obtain⟨cs,k1,k2⟩:=h.kno
 obtain⟨ds,m1,m2⟩:=h.mad
 have nr:NoRun w (fun k=>k=a.kn i):=fun k hk cs e=>by
  subst hk;exact ty_ne hbs e (by decide) rfl
 have bel:Below B w (w.setCell ⟨a.kn i,t,none⟩ x.v):=hk.below h.hB (fun k hk=>by rw[hk];exact h.hk i hi)
 refine⟨⟨(hk.block _ (lt_of_block h.blk) (fun e=>ty_ne h.blk hbs (by decide) e)).trans h.blk,h.old.below bel,⟨cs,(hk.block _ (lt_of_block k1) (fun e=>ty_ne k1 hbs (by decide) e)).trans k1,k2⟩,fun j hj=>?_,fun j t' y hj hy=>?_,⟨ds,(hk.block _ (lt_of_block m1) (fun e=>ty_ne m1 hbs (by decide) e)).trans m1,m2⟩,fun j hj=>(h.tab j hj).kept hk (fun k hp e=>h.kpt i j hi hj (e▸hp)) nr,h.yl,h.apt,h.kpt,h.kin,h.fx,h.hi,h.hk,Nat.le_trans h.hB hk.size,h.hl⟩,hk⟩
 ·by_cases e:j=i
  ·subst e
   simp only[↓reduceIte]
   exact(h.knb j hj).set ht x
  ·simp only[if_neg e]
   exact(h.knb j hj).kept hk (fun e2=>e (h.kin j i hj hi e2))
 ·by_cases e:j=i
  ·subst e
   simp only[↓reduceIte,setK] at hy
   split at hy
   ·injection hy with hy
    subst hy
    exact⟨hx.keptT hk nr,hf⟩
   ·exact⟨(h.knr j t' y hj hy).1.keptT hk nr,(h.knr j t' y hj hy).2⟩
  ·simp only[if_neg e] at hy
   exact⟨(h.knr j t' y hj hy).1.keptT hk nr,(h.knr j t' y hj hy).2⟩
end
end Go.Proofs.Ytnddhkhmbjeefaa

