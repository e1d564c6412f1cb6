/-
  An automaton, numbers, texts that came in as arguments lie in memory as the walks ask it. Condition: the form's own reach.
-/
import Derived.Deep.Slices
import Derived.SizedLaws
import Derived.SliceStrings
import Derived.OpenShut
import Derived.WalkKit
import Derived.WideShapes
import Derived.Test.YtdgoilkgplnhfaaGreatJ31
namespace Go.Proofs.YtdgoilkgplnhfaaGreat
open Go.RowKit Go.Deep Go.ChangeShapes Go.WideShapes
theorem Tryz.cellsI:Tryz.prog.cellsOf 3=1:=by kernel_rfl
theorem Tryz.bytesI:Tryz.prog.bytesOf 3=8:=by kernel_rfl
theorem Tryz.cellsS:Tryz.prog.cellsOf 9=1:=by kernel_rfl
theorem Tryz.cellsL:Tryz.prog.cellsOf 22=1:=by kernel_rfl
theorem qo7 {α:Type} (l:List α) (h:l.length=1):∃a,l=[a]:=by
 match l,h with
 |[a],_=>exact⟨a,rfl⟩
theorem qhx {α:Type} (l:List α) (h:l.length=3):∃a b c,l=[a,b,c]:=by
 match l,h with
 |[a,b,c],_=>exact⟨a,b,c,rfl⟩
theorem qgc {α:Type} {p:Nat→α→Prop}:∀n,(∀i,i<n→∃s,p i s)→∃L:List α,L.length=n∧∀i (h:i<L.length),p i L[i]
 |0,_=>⟨[],rfl,fun i hi=>absurd hi (Nat.not_lt_zero i)⟩
 |n+1,h=>by
  obtain⟨L,h1,h2⟩:=qgc n (fun i hi=>h i (by omega));obtain⟨s,hs⟩:=h n (by omega);refine⟨L++[s],by simp[h1],fun i hi=>?_⟩;by_cases hn:i<L.length
  ·rw[List.getElem_append_left hn];exact h2 i hn
  ·have:i=L.length:=by rw[List.length_append,List.length_singleton] at hi;omega
   subst this;rw[List.getElem_append_right (Nat.le_refl _)];simp only[Nat.sub_self,List.getElem_cons_zero];rw[h1];exact hs
theorem qeb {H:Type} {enc:TypeId×Value→H} {W:World} {fuel:Nat} {a0:Option Addr} {len cap:Nat} {d:DataW H} {p:List MemPlace}
 (hf:DataW.trod enc Tryz.prog W 0 (fun _=>true) true fuel 22 [.slice a0 len cap]=some (d,p)) (hw:∀k∈d.weights Tryz.prog 22,k≤reachBytes):∃L:List Int,L.length=len∧len≤17592186043904∧ZAt W a0 L:=by
 rcases open_slice Tryz.underlying22 hf with⟨hcs,_⟩|⟨a,l,c,m,n,V,Pl,hcs,_,hl,hm,hmm,hx,hat⟩
 ·injection hcs with hv
  injection hv with e1 e2 e3
  subst e2 e3;exact⟨[],rfl,by omega,.inl rfl⟩
 ·injection hcs with hv
  injection hv with e1 e2 e3
  subst e1 e2 e3;simp only[if_true] at hmm;subst hmm;simp only[Prod.mk.injEq] at hx;obtain⟨hd,hp⟩:=hx;have hcap:(len+(m-len))*8≤reachBytes:=by
   refine hw _ ?_;rw[hd];simp[DataW.weights,Tryz.underlying22,Tryz.bytesI]
  have hlen:len≤17592186043904:=by simp only[reachBytes] at hcap;omega
  by_cases h0:len=0
  ·subst h0
   exact⟨[],rfl,by omega,.inl rfl⟩
  have each:∀i,i<len→∃z:Int,W.cell? (a.add (i*1))=some (.int .i64 z):=by
   intro i hi;obtain⟨cs',g1,g2⟩:=hat i (by omega);rw[Tryz.cellsI] at g1;obtain⟨_,hlen,hcell⟩:=World.cells?_some g1;obtain⟨v,rfl⟩:=qo7 cs' hlen;obtain⟨z,e,_,_⟩:=DataW.trod_int Tryz.underlying3 g2;simp only[List.cons.injEq,and_true] at e;subst e;have c0:=hcell 0 (by decide);rw[add_add] at c0;exact⟨z,by simpa using c0⟩
  obtain⟨L,hL,hp'⟩:=qgc len each;obtain⟨b,off,spot⟩:=a;have hz:=hp' 0 (by omega);have hspot:spot=none:=by simpa [Addr.add] using World.cell?_spot hz
  subst hspot;refine⟨L,hL,hlen,.inr ⟨b,off,rfl,World.block_lt_of_cell? W _ (by simpa [Addr.add] using hz),fun i hi=>?_⟩⟩;have q0:=hp' i hi;rw[qbu,Nat.mul_one] at q0;exact q0
set_option maxRecDepth 100000 in
theorem qgd {H:Type} {enc:TypeId×Value→H} {W:World} {base:Nat} {v:Value} {d:DataW H} {p:List MemPlace} {r:_}
 (hok:Value.okWide Tryz.prog W r base 24 v) (h:DataW.Trod enc Tryz.prog W 0 (fun _=>true) true 24 v d p) (hw:∀k∈d.weights Tryz.prog 24,k≤reachBytes):
 ∃(bs:By) (na oa:Option Addr) (nc oc:Nat) (NZ OZ:List Int),v=auV bs na NZ.length nc oa OZ.length oc∧bs.length≤140737488351232∧NZ.length≤17592186043904∧OZ.length≤17592186043904∧ZAt W na NZ∧ZAt W oa OZ:=by
 obtain⟨cs,rfl,hsz⟩:=okWide_struct Tryz.underlying24 hok;obtain⟨fuel,hf⟩:=h;obtain⟨xs,k,_,hxy,_,hxl,hfl⟩:=DataW.trod_struct Tryz.underlying24 hf;have hc24:Tryz.prog.cellsOf 24=3:=by kernel_rfl
 rw[hc24] at hsz;obtain⟨cl⟩:=cs;obtain⟨v0,v1,v2,rfl⟩:=qhx cl hsz;obtain⟨y0,y1,y2,rfl⟩:=qhx xs hxl;have g0:=hfl 0 _ rfl;have g1:=hfl 1 _ rfl;have g2:=hfl 2 _ rfl;simp[Tryz.cellsS,Tryz.cellsL,Value.cells] at g0 g1 g2;obtain⟨s0,e0,f0,w0⟩:=DataW.trod_string Tryz.underlying9 g0;simp only[List.cons.injEq,and_true] at e0;subst e0;obtain⟨a1,l1,c1,rfl⟩:∃ai li ci,v1=.slice ai li ci:=by
  rcases open_slice Tryz.underlying22 g1 with⟨hcs,_⟩|⟨a',l',c',_,_,_,_,hcs,_⟩
  ·injection hcs with hv;exact⟨none,0,0,hv⟩
  ·injection hcs with hv;exact⟨_,l',c',hv⟩
 obtain⟨a2,l2,c2,rfl⟩:∃ai li ci,v2=.slice ai li ci:=by
  rcases open_slice Tryz.underlying22 g2 with⟨hcs,_⟩|⟨a',l',c',_,_,_,_,hcs,_⟩
  ·injection hcs with hv;exact⟨none,0,0,hv⟩
  ·injection hcs with hv;exact⟨_,l',c',hv⟩
 obtain⟨L1,e1,h1,z1⟩:=qeb (d:=y1.1) (p:=y1.2) g1 (fun k hk=>hw k (by
  simp only[Prod.mk.injEq] at hxy;rw[hxy.1];simp[DataW.weights,Tryz.underlying24];exact DataW.weights_mem_each (j:=1) (t:=22) rfl rfl k hk))
 obtain⟨L2,e2,h2,z2⟩:=qeb (d:=y2.1) (p:=y2.2) g2 (fun k hk=>hw k (by
  simp only[Prod.mk.injEq] at hxy;rw[hxy.1];simp[DataW.weights,Tryz.underlying24];exact DataW.weights_mem_each (j:=2) (t:=22) rfl rfl k hk))
 subst e1 e2;have hb0:s0.data.toList.length≤reachBytes:=hw _ (by
  simp only[Prod.mk.injEq] at hxy;rw[hxy.1];simp[DataW.weights,Tryz.underlying24];refine DataW.weights_mem_each (j:=0) (t:=9) rfl rfl _ ?_;rw[f0];simp[DataW.weights])
 exact⟨s0.data.toList,a1,a2,c1,c2,L1,L2,rfl,by simpa [reachBytes] using hb0,h1,h2,z1,z2⟩
end Go.Proofs.YtdgoilkgplnhfaaGreat

