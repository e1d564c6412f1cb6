/-
  States that are sorted by their labels, put into parts of one label each. Of no program: no condition.
-/
import Derived.Test.YtdgoilkgplnhfaaGreatJ04
import Derived.Test.YtdgoilkgplnhfaaGreatJ12
import Derived.Lib.SliceRun
import Derived.Test.YtdgoilkgplnhfaaGreatJ09
import Derived.DeepKeys4
import Derived.Test.YtdgoilkgplnhfaaGreatJ06
namespace Go.Proofs.YtdgoilkgplnhfaaGreat
structure LsS (n:Nat) (OU L:List Nat):Prop where
 ll:L.length=n
 lt:∀i,i<n→gN L i<n
 nd:∀i,i<n→∀j,j<n→gN L i=gN L j→i=j
 on:∀s,s<n→∃i,i<n∧gN L i=s
 up:∀i j,i≤j→j<n→gN OU (gN L i)≤gN OU (gN L j)
structure ByS (n:Nat) (OU L:List Nat) (i:Nat) (P O:List Nat) (R:List Rm):Prop where
 pl:P.length=n
 ol:O.length=n
 il:i≤n
 po:∀j,j<i→gN P (gN L j)=j∧gN O (gN L j)<R.length∧(gR R (gN O (gN L j))).a≤j∧j<(gR R (gN O (gN L j))).e
 rm:∀k,k<R.length→(gR R k).m=(gR R k).a∧(gR R k).a<(gR R k).e∧(gR R k).e≤i∧∀j,(gR R k).a≤j→j<(gR R k).e→gN O (gN L j)=k
 la:(i=0∧R.length=0)∨(0<i∧gN O (gN L (i-1))+1=R.length∧(gR R (R.length-1)).e=i)
 lab:∀j,j<i→∀k,k<i→(gN O (gN L j)=gN O (gN L k)↔gN OU (gN L j)=gN OU (gN L k))
section
variable {n:Nat} {OU L P O:List Nat} {i:Nat} {R:List Rm}
theorem ByS.start (hp:P.length=n) (ho:O.length=n):ByS n OU L 0 P O []:=
 ⟨hp,ho,Nat.zero_le _,fun j hj=>(by omega),fun k hk=>(by cases hk),.inl ⟨rfl,rfl⟩,fun j hj=>(by omega)⟩
theorem ByS.le (h:ByS n OU L i P O R):R.length≤i:=
 qax i R.length (fun k=>(gR R k).a) (fun k hk=>by have:=h.rm k hk;omega) (fun x hx y hy e=>by
  have h1:=h.rm x hx;have h2:=h.rm y hy;have e':(gR R x).a=(gR R y).a:=e;rw[←h1.2.2.2 _ (Nat.le_refl _) h1.2.1,←h2.2.2.2 _ (Nat.le_refl _) h2.2.1,e'])
theorem ByS.new (h:ByS n OU L i P O R) (hL:LsS n OU L) (hi:i<n) (hd:i=0∨¬gN OU (gN L i)=gN OU (gN L (i-1))):ByS n OU L (i+1) (P.set (gN L i) i) (O.set (gN L i) R.length) (R++[⟨i,i,i+1⟩]):=by
 have hlt:=hL.lt i hi;have pS:∀t,gN (P.set (gN L i) i) t=if t=gN L i then i else gN P t:=fun t=>qbw P (by rw[h.pl];exact hlt) i t
 have oS:∀t,gN (O.set (gN L i) R.length) t=if t=gN L i then R.length else gN O t:=fun t=>qbw O (by rw[h.ol];exact hlt) _ t
 have hne:∀j,j<i→¬gN L j=gN L i:=fun j hj e=>by have:=hL.nd j (by omega) i hi e;omega
 have hlen:(R++[(⟨i,i,i+1⟩:Rm)]).length=R.length+1:=by simp
 have rL:gR (R++[(⟨i,i,i+1⟩:Rm)]) R.length=⟨i,i,i+1⟩:=qgl R _;have hun:∀j,j<i→¬gN OU (gN L j)=gN OU (gN L i):=fun j hj e=>by
  rcases hd with hd|hd
  ·omega
  ·have a1:=hL.up j (i-1) (by omega) (by omega)
   have a2:=hL.up (i-1) i (by omega) hi;omega
 refine⟨by rw[List.length_set];exact h.pl,by rw[List.length_set];exact h.ol,hi,fun j hj=>?_,fun k hk=>?_,.inr ⟨by omega,?_,?_⟩,fun j hj k hk=>?_⟩
 ·by_cases e:j=i
  ·subst e
   rw[pS,oS,if_pos rfl,if_pos rfl,hlen,rL];exact⟨rfl,Nat.lt_succ_self _,Nat.le_refl _,Nat.lt_succ_self _⟩
  ·have hji:j<i:=by omega
   have:=h.po j hji;rw[pS,oS,if_neg (hne j hji),if_neg (hne j hji),hlen,qgk this.2.1];exact⟨this.1,by omega,this.2.2⟩
 ·rw[hlen] at hk
  by_cases e:k<R.length
  ·have:=h.rm k e
   rw[qgk e];refine⟨this.1,this.2.1,by omega,fun j h1 h2=>?_⟩;rw[oS,if_neg (hne j (by omega))];exact this.2.2.2 j h1 h2
  ·obtain rfl:k=R.length:=by omega
   rw[rL];refine⟨rfl,Nat.lt_succ_self _,Nat.le_refl _,fun j h1 h2=>?_⟩;have h1:i≤j:=h1;have h2:j<i+1:=h2;obtain rfl:j=i:=by omega
   rw[oS,if_pos rfl]
 ·rw[Nat.add_sub_cancel,oS,if_pos rfl,hlen]
 ·rw[hlen,Nat.add_sub_cancel,rL]
 ·by_cases e1:j=i
  ·by_cases e2:k=i
   ·rw[e1,e2];exact⟨fun _=>rfl,fun _=>rfl⟩
   ·have hki:k<i:=by omega
    have:=h.po k hki;rw[e1,oS,oS,if_pos rfl,if_neg (hne k hki)];exact⟨fun e=>by omega,fun e=>absurd e.symm (hun k hki)⟩
  ·have hji:j<i:=by omega
   have hpj:=h.po j hji;by_cases e2:k=i
   ·rw[e2,oS,oS,if_pos rfl,if_neg (hne j hji)]
    exact⟨fun e=>by omega,fun e=>absurd e (hun j hji)⟩
   ·rw[oS,oS,if_neg (hne j hji),if_neg (hne k (by omega))]
    exact h.lab j hji k (by omega)
theorem ByS.more (h:ByS n OU L i P O R) (hL:LsS n OU L) (hi:i<n) (h0:0<i) (hd:gN OU (gN L i)=gN OU (gN L (i-1))) {r:Rm} (hr:gR R (R.length-1)=r):0<R.length∧ByS n OU L (i+1) (P.set (gN L i) i) (O.set (gN L i) (R.length-1)) (R.set (R.length-1) ⟨r.a,r.m,i+1⟩):=by
 obtain⟨hq1,hq2,hq3⟩:=h.la.resolve_left (fun e=>by omega);have hlt:=hL.lt i hi;have hRl:R.length-1<R.length:=by omega
 have hlast:=h.rm _ hRl;rw[hr] at hlast hq3;have pS:∀t,gN (P.set (gN L i) i) t=if t=gN L i then i else gN P t:=fun t=>qbw P (by rw[h.pl];exact hlt) i t
 have oS:∀t,gN (O.set (gN L i) (R.length-1)) t=if t=gN L i then R.length-1 else gN O t:=fun t=>qbw O (by rw[h.ol];exact hlt) _ t
 have rS:∀k,gR (R.set (R.length-1) ⟨r.a,r.m,i+1⟩) k=if k=R.length-1 then⟨r.a,r.m,i+1⟩ else gR R k:=fun k=>qc5 R hRl _ k
 have hne:∀j,j<i→¬gN L j=gN L i:=fun j hj e=>by have:=hL.nd j (by omega) i hi e;omega
 refine⟨by omega,by rw[List.length_set];exact h.pl,by rw[List.length_set];exact h.ol,hi,fun j hj=>?_,fun k hk=>?_,.inr ⟨by omega,?_,?_⟩,fun j hj k hk=>?_⟩
 ·by_cases e:j=i
  ·subst e
   rw[pS,oS,if_pos rfl,if_pos rfl,List.length_set,rS,if_pos rfl];exact⟨rfl,hRl,by show r.a≤j;omega,Nat.lt_succ_self _⟩
  ·have hji:j<i:=by omega
   have:=h.po j hji;rw[pS,oS,if_neg (hne j hji),if_neg (hne j hji),List.length_set,rS];refine⟨this.1,this.2.1,?_⟩;by_cases e2:gN O (gN L j)=R.length-1
   ·rw[if_pos e2]
    have h3:=this.2.2;rw[e2,hr] at h3;show r.a≤j∧j<i+1;omega
   ·rw[if_neg e2];exact this.2.2
 ·rw[List.length_set] at hk
  rw[rS];by_cases e:k=R.length-1
  ·rw[if_pos e]
   refine⟨hlast.1,by show r.a<i+1;omega,Nat.le_refl _,fun j h1 h2=>?_⟩;have h1:r.a≤j:=h1;have h2:j<i+1:=h2;rw[oS];by_cases e2:j=i
   ·rw[e2,if_pos rfl,e]
   ·rw[if_neg (hne j (by omega)),e]
    exact hlast.2.2.2 j h1 (by omega)
  ·rw[if_neg e]
   have:=h.rm k hk;refine⟨this.1,this.2.1,by omega,fun j h1 h2=>?_⟩;rw[oS,if_neg (hne j (by omega))];exact this.2.2.2 j h1 h2
 ·rw[Nat.add_sub_cancel,oS,if_pos rfl,List.length_set];omega
 ·rw[List.length_set,rS,if_pos rfl]
 ·have hl1:gN O (gN L (i-1))=R.length-1:=by omega
  have key:∀j,j<i→(gN O (gN L j)=R.length-1↔gN OU (gN L j)=gN OU (gN L i)):=fun j hj=>by rw[←hl1,hd];exact h.lab j hj (i-1) (by omega)
  by_cases e1:j=i
  ·by_cases e2:k=i
   ·rw[e1,e2];exact⟨fun _=>rfl,fun _=>rfl⟩
   ·have hki:k<i:=by omega
    rw[e1,oS,oS,if_pos rfl,if_neg (hne k hki)];exact⟨fun e=>((key k hki).1 e.symm).symm,fun e=>((key k hki).2 e.symm).symm⟩
  ·have hji:j<i:=by omega
   by_cases e2:k=i
   ·rw[e2,oS,oS,if_pos rfl,if_neg (hne j hji)]
    exact key j hji
   ·rw[oS,oS,if_neg (hne j hji),if_neg (hne k (by omega))]
    exact h.lab j hji k (by omega)
theorem ByS.fin (h:ByS n OU L n P O R) (hL:LsS n OU L):PtS n L P O R∧Plain R∧∀s,s<n→∀t,t<n→(gN O s=gN O t↔gN OU s=gN OU t):=by
 refine⟨⟨hL.ll,h.pl,h.ol,fun i hi=>⟨hL.lt i hi,(h.po i hi).1⟩,fun s hs=>?_,fun s hs=>?_,fun k hk=>?_,fun k hk=>(h.rm k hk).2.2.2⟩,fun k hk=>(h.rm k hk).1,fun s hs t ht=>?_⟩
 ·obtain⟨i,hi,e⟩:=hL.on s hs
  have:=(h.po i hi).1;rw[e] at this;rw[this];exact⟨hi,e⟩
 ·obtain⟨i,hi,e⟩:=hL.on s hs
  have:=h.po i hi;rw[e] at this;rw[this.1];exact this.2
 ·have:=h.rm k hk
  omega
 ·obtain⟨i,hi,rfl⟩:=hL.on s hs
  obtain⟨j,hj,rfl⟩:=hL.on t ht;exact h.lab i hi j hj
end
end Go.Proofs.YtdgoilkgplnhfaaGreat
namespace Go.Proofs.YtdgoilkgplnhfaaGreat
open Go.RowKit Go.Lib
theorem qh4 (R:List Rm) (k:Nat) (h:k<R.length) (m:Nat):(qao R).set (k*3+2) (.int .i64 (m:Int))=qao (R.set k ⟨(gR R k).a,(gR R k).m,m⟩):=by
 refine List.ext_getElem? (fun i=>?_);rw[List.getElem?_set];by_cases hi:i<R.length*3
 ·obtain⟨q,j,hj,rfl⟩:∃q j,j<3∧i=q*3+j:=⟨i/3,i%3,by omega,by omega⟩
  rw[qaz (R.set k _) q j (by rw[List.length_set];omega) hj,qc5 R h,qa0];by_cases e:q=k
  ·subst e
   rw[if_pos rfl]
   match j,hj with
   |0,_=>rw[if_neg (by omega),qaz _ _ _ h (by omega)];simp[rmC]
   |1,_=>rw[if_neg (by omega),qaz _ _ _ h (by omega)];simp[rmC]
   |2,_=>rw[if_pos rfl,if_pos (by omega)];simp[rmC]
  ·rw[if_neg (by omega),if_neg e,qaz _ _ _ (by omega) hj]
 ·rw[if_neg (by omega),List.getElem?_eq_none (by rw[qa0];omega),List.getElem?_eq_none (by rw[qa0,List.length_set];omega)]
section
variable {w w':World} {base pb:Nat} {lv pv ov rv:Value} {L P O:List Nat} {R:List Rm}
theorem PrM.ends {rg cr:Nat} (h:PrM w base pb lv pv ov (.slice (some ⟨rg,0,none⟩) R.length cr) L P O R) {k:Nat} (hk:k<R.length) (m:Nat):
 PrM (w.setCell ⟨rg,k*3+2,none⟩ (.int .i64 (m:Int))) base pb lv pv ov (.slice (some ⟨rg,0,none⟩) R.length cr) L P O (R.set k ⟨(gR R k).a,(gR R k).m,m⟩)∧Kept (fun b=>b=rg) w (w.setCell ⟨rg,k*3+2,none⟩ (.int .i64 (m:Int))):=by
 have oR:w.ownsRow base 164 3 (.slice (some ⟨rg,0,none⟩) R.length cr) R.length (qao R):=h.own;obtain⟨o1,h2⟩:=oR.stored (k*3+2) (.int .i64 (m:Int));have k5:Kept (fun b=>b=rg) w (w.setCell ⟨rg,k*3+2,none⟩ (.int .i64 (m:Int))):=(qae h2).mono (fun b hb=>by injection hb with hb;exact hb.symm);have o5:qes (w.setCell ⟨rg,k*3+2,none⟩ (.int .i64 (m:Int))) base (.slice (some ⟨rg,0,none⟩) R.length cr) (R.set k ⟨(gR R k).a,(gR R k).m,m⟩):=by
  unfold qes;rw[List.length_set,←qh4 R k hk];exact o1
 refine⟨⟨(k5.block pb (lt_of_block h.blk) (fun e=>h.notpb rg (.inr (.inr (.inr rfl))) e.symm)).trans h.blk,h.ge,h.rws.kept k5 (fun j hj b hb e=>?_),o5⟩,k5⟩;exact qa5 (show w.ownsRow base 3 1 _ _ (qab _) from h.rws.own j hj) oR (by decide) b hb (by rw[e];rfl)
theorem PrM.setL {lg nl cl:Nat} (h:PrM w base pb (.slice (some ⟨lg,0,none⟩) nl cl) pv ov rv L P O R) (i x:Nat):
 PrM (w.setCell ⟨lg,i,none⟩ (.int .i64 (x:Int))) base pb (.slice (some ⟨lg,0,none⟩) nl cl) pv ov rv (L.set i x) P O R:=by
 have oL:w.ownsRow base 3 1 (.slice (some ⟨lg,0,none⟩) nl cl) L.length (qab L):=h.rws.own 0 (by simp);have oR:w.ownsRow base 164 3 rv R.length (qao R):=h.own;have k5:Kept (fun b=>b=lg) w (w.setCell ⟨lg,i,none⟩ (.int .i64 (x:Int))):=(Kept.refl (fun b=>b=lg) w).setCell (p:=⟨lg,i,none⟩) rfl _;exact⟨(k5.block pb (lt_of_block h.blk) (fun e=>h.notpb lg (.inl rfl) e.symm)).trans h.blk,h.ge,h.rws.store (i:=0) (by simp) rfl i x,qai h.own k5 (fun b hb e=>qa5 oR oL (by decide) b hb (by rw[e];rfl))⟩
theorem PrM.setPO {pg np cp og no co:Nat} (h:PrM w base pb lv (.slice (some ⟨pg,0,none⟩) np cp) (.slice (some ⟨og,0,none⟩) no co) rv L P O R) (s i k:Nat):
 PrM ((w.setCell ⟨pg,s,none⟩ (.int .i64 (i:Int))).setCell ⟨og,s,none⟩ (.int .i64 (k:Int))) base pb lv (.slice (some ⟨pg,0,none⟩) np cp) (.slice (some ⟨og,0,none⟩) no co) rv L (P.set s i) (O.set s k) R:=by
 have oP:w.ownsRow base 3 1 (.slice (some ⟨pg,0,none⟩) np cp) P.length (qab P):=h.rws.own 1 (by simp);have oO:w.ownsRow base 3 1 (.slice (some ⟨og,0,none⟩) no co) O.length (qab O):=h.rws.own 2 (by simp);have oR:w.ownsRow base 164 3 rv R.length (qao R):=h.own;have k5:Kept (fun b=>b=pg∨b=og) w ((w.setCell ⟨pg,s,none⟩ (.int .i64 (i:Int))).setCell ⟨og,s,none⟩ (.int .i64 (k:Int))):=((Kept.refl (fun b=>b=pg∨b=og) w).setCell (p:=⟨pg,s,none⟩) (.inl rfl) _).setCell (p:=⟨og,s,none⟩) (.inr rfl) _;refine⟨(k5.block pb (lt_of_block h.blk) (fun e=>?_)).trans h.blk,h.ge,(h.rws.store (i:=1) (by simp) rfl s i).store (i:=2) (by simp) rfl s k,qai h.own k5 (fun b hb e=>?_)⟩
 ·rcases e with e|e
  ·exact h.notpb pg (.inr (.inl rfl)) e.symm
  ·exact h.notpb og (.inr (.inr (.inl rfl))) e.symm
 ·rcases e with e|e
  ·exact qa5 oR oP (by decide) b hb (by rw[e];rfl)
  ·exact qa5 oR oO (by decide) b hb (by rw[e];rfl)
end
theorem qa6 (V:World) (a b c d:Array Value) (T T' T2 T3:TypeId):Below V.heap.size V ((((V.alloc (.cells a T)).alloc (.cells b T')).alloc (.cells c T2)).alloc (.cells d T3)).drew∧((((V.alloc (.cells a T)).alloc (.cells b T')).alloc (.cells c T2)).alloc (.cells d T3)).drew.heap[V.heap.size]? =some (.cells a T (0,0))∧((((V.alloc (.cells a T)).alloc (.cells b T')).alloc (.cells c T2)).alloc (.cells d T3)).drew.heap[V.heap.size+1]? =some (.cells b T' (0,0))∧((((V.alloc (.cells a T)).alloc (.cells b T')).alloc (.cells c T2)).alloc (.cells d T3)).drew.heap[V.heap.size+1+1]? =some (.cells c T2 (0,0))∧((((V.alloc (.cells a T)).alloc (.cells b T')).alloc (.cells c T2)).alloc (.cells d T3)).drew.heap[V.heap.size+1+1+1]? =some (.cells d T3 (0,0)):=by
 obtain⟨x,b1,b2,hs⟩:=qap V a b T T';generalize (V.alloc (.cells a T)).alloc (.cells b T')=wa at *;obtain⟨y,c1,c2,hs2⟩:=qap wa c d T2 T3;rw[hs] at c1 c2;exact⟨(bt x y (Nat.le_refl _)).drew,(y.block _ (lt_of_block b1)).trans b1,(y.block _ (lt_of_block b2)).trans b2,c1,c2⟩
theorem PrM.mk4 {w0 V wx:World} {n pb lg pg og:Nat} (hm:n≤maxLen) (x0:w0.heap.size≤V.heap.size) (h1:wx.heap[pb]? =some (.cells #[.slice (some ⟨lg,0,none⟩) n n,.slice (some ⟨pg,0,none⟩) n n,.slice (some ⟨og,0,none⟩) n n,.slice none 0 0] 161 (0,0))) (h2:wx.heap[lg]? =some (.cells (madeCells #[.int .i64 0] n) 3 (0,0))) (h3:wx.heap[pg]? =some (.cells (madeCells #[.int .i64 0] n) 3 (0,0))) (h4:wx.heap[og]? =some (.cells (madeCells #[.int .i64 0] n) 3 (0,0))) (n1:¬lg=pg) (n2:¬lg=og) (n3:¬pg=og) (g1:V.heap.size≤pb) (g2:V.heap.size≤lg) (g3:V.heap.size≤pg) (g4:V.heap.size≤og):
 PrM wx w0.heap.size pb (.slice (some ⟨lg,0,none⟩) n n) (.slice (some ⟨pg,0,none⟩) n n) (.slice (some ⟨og,0,none⟩) n n) (.slice none 0 0) (List.replicate n 0) (List.replicate n 0) (List.replicate n 0) []:=by
 refine⟨h1,by omega,⟨fun j hj=>?_,fun j hj k hk hne b hb hb2=>?_⟩,World.ownsRow_nil _ _ _ _⟩
 ·match j,hj with
  |0,_=>exact qc8 wx w0.heap.size lg n (by omega) hm h2
  |1,_=>exact qc8 wx w0.heap.size pg n (by omega) hm h3
  |2,_=>exact qc8 wx w0.heap.size og n (by omega) hm h4
 ·match j,hj,k,hk with
  |0,_,0,_=>exact hne rfl
  |0,_,1,_=>exact n1 (by have a:lg=b:=Option.some.inj hb;have c:pg=b:=Option.some.inj hb2;omega)
  |0,_,2,_=>exact n2 (by have a:lg=b:=Option.some.inj hb;have c:og=b:=Option.some.inj hb2;omega)
  |1,_,0,_=>exact n1 (by have a:pg=b:=Option.some.inj hb;have c:lg=b:=Option.some.inj hb2;omega)
  |1,_,1,_=>exact hne rfl
  |1,_,2,_=>exact n3 (by have a:pg=b:=Option.some.inj hb;have c:og=b:=Option.some.inj hb2;omega)
  |2,_,0,_=>exact n2 (by have a:og=b:=Option.some.inj hb;have c:lg=b:=Option.some.inj hb2;omega)
  |2,_,1,_=>exact n3 (by have a:og=b:=Option.some.inj hb;have c:pg=b:=Option.some.inj hb2;omega)
  |2,_,2,_=>exact hne rfl
theorem qbu (b off n:Nat):(⟨b,off,none⟩:Addr).add n=⟨b,off+n,none⟩:=by unfold Addr.add;split<;>simp_all
theorem NAt.cells {w:World} {a:Addr} {L:List Nat} (h:NAt w (some a) L):∀j u,(qab L)[j]? =some u→w.cell? (a.add j)=some u:=fun j u hu=>by
 have hj:j<L.length:=by
  rcases Nat.lt_or_ge j L.length with h1|h1
  ·exact h1
  ·rw[List.getElem?_eq_none (by rw[qaf];exact h1)] at hu;cases hu
 obtain⟨b,off,e,_,c⟩:=h.get hj;injection e with e
 subst e;rw[qde L j hj] at hu;rw[qbu,c];exact hu
theorem qh5 (L:List Nat):∀u∈qab L,u.oneCell'=true:=fun u hu=>by
 obtain⟨n,_,rfl⟩:=List.mem_map.1 hu;simp[Value.oneCell']
set_option maxRecDepth 100000 in
set_option maxHeartbeats 1000000 in
theorem qh6 (a:Addr) (cap:Nat) (L:List Nat) (w:World) (hl:L.length≤65536) (hat:NAt w (some a) L):
 Calls Tryz.prog 116 #[.slice (some a) L.length cap] w fun e w'=>(∃v',e=.returned v'∧qan w' w.heap.size v' L)∧Below w.heap.size w w':=by
 obtain⟨i3,hi3,hz30,hz31,hz32⟩:=info_parts Tryz.info3n;have hnil:=fun(a:Option Addr) (n c:Nat) (W:World)=>run_eql_slice_nil (P:=Tryz.prog) W 22 3 a n c 0 0 Tryz.underlying22
 have hb1:Below w.heap.size w (w.alloc (.cells #[] 3)):=(Below.refl _ _).alloc (Nat.le_refl _) _;have HN:=qaa (hat.below hb1).cells;have HO:Hid ((w.alloc (.cells #[] 3)).ownsRow w.heap.size 3 1 (.slice (some ⟨w.heap.size,0,none⟩) 0 0) 0 []):=⟨rfl,.inr ⟨w.heap.size,0,#[],rfl,Nat.le_refl _,by show(w.heap.push _)[_]? =_;simp,Nat.le_refl _,by decide,rfl,rfl⟩⟩;have HB:=qaa hb1;have HL:Hid ((qab L).length=L.length*1):=by unfold Hid;rw[qaf,Nat.mul_one]
 clear hat hb1;go_enter Tryz.func116,Tryz.ntmps116;go_wp2_with (at_builtin;refine wpList_append_own_at _ rfl (.tmp 5) (.tmp 6) 22 rfl w.heap.size 3 i3 (.int .i64 0) 1 8 Tryz.underlying22 hi3 hz30 hz31 hz32 rfl (by decide) _ 0 [] rfl HO.out a L.length cap (qab L) rfl HL.out HN.out (qh5 L) (by unfold maxLen;omega) (by omega) HB.out.size ?_;intro v8 w8 h1 h2 _ h3;have H1:=qaa h1;have H2:=qaa h2;clear h1 h2 h3);go_ret;refine⟨⟨_,rfl,?_⟩,HB.out.grown H2.out HB.out.size (fun k hk=>by cases hk;exact Nat.le_refl _)⟩;have:=H1.out;rw[Nat.zero_add,List.nil_append] at this;exact this
end Go.Proofs.YtdgoilkgplnhfaaGreat
namespace Go.Proofs.YtdgoilkgplnhfaaGreat
open Go.RowKit Go.Lib Go.Maps
theorem mapM_some {α β:Type} (f:α→Option β) (g:α→β):∀l:List α,(∀x∈l,f x=some (g x))→l.mapM f=some (l.map g)
 |[],_=>rfl
 |x::l,h=>by
  rw[List.mapM_cons,h x List.mem_cons_self,mapM_some f g l (fun y hy=>h y (List.mem_cons_of_mem _ hy))];rfl
theorem qbm:Tryz.prog.types.size=253:=by kernel_rfl
theorem qk3:Tryz.prog.cellsOf 169=256∧Tryz.prog.cellsOf 167=256∧Tryz.prog.cellsOf 5=1:=⟨by kernel_rfl,by kernel_rfl,by kernel_rfl⟩
theorem qk4:Tryz.prog.keyType 169=true:=by kernel_rfl
theorem qn3 (b:Nat) (hb:b<256) (d:Nat):Tryz.prog.keyLits (d+1) 5 [.int .u8 (b:Int)]=some [.int .u8 (b:Int)]:=by
 unfold Program.keyLits;simp only[Tryz.underlying5];rw[if_pos (by simp[Lit.wf,IntKind.min,IntKind.max,IntKind.signed,IntKind.bits];omega)]
theorem qgu (B:List Nat) (hl:B.length=256) (hv:∀x∈B,x<256):∃l,keyOf Tryz.prog 169 (.agg (B.map fun(b:Nat)=>Value.int .u8 (b:Int)).toArray)=some l:=by
 obtain⟨c1,c2,c3⟩:=qk3;have hlits:∃ls,Tryz.prog.keyLits (Tryz.prog.types.size+1) 169 (B.map fun(b:Nat)=>Value.int .u8 (b:Int))=some ls:=by
  rw[qbm];unfold Program.keyLits;simp only[Tryz.underlying169];have hlen:(B.map fun(b:Nat)=>Value.int .u8 (b:Int)).length=256:=by rw[List.length_map,hl]
  rw[if_pos ⟨by rw[hlen,c1],by first|(simp;done)|kernel_rfl⟩];have h167:∃ls,Tryz.prog.keyLits 253 167 (B.map fun(b:Nat)=>Value.int .u8 (b:Int))=some ls:=by
   unfold Program.keyLits;simp only[Tryz.underlying167];rw[if_pos (by rw[hlen,c2]),mapM_some _ (fun i=>[Lit.int .u8 ((gN B i:Nat):Int)]) (List.range 256) (fun i hi=>?_)]
   ·exact⟨_,rfl⟩
   ·have hi':i<B.length:=by rw[hl];exact List.mem_range.1 hi
    have e:((B.map fun(b:Nat)=>Value.int .u8 (b:Int)).drop (i*Tryz.prog.cellsOf 5)).take (Tryz.prog.cellsOf 5)=[.int .u8 ((gN B i:Nat):Int)]:=by
     rw[c3,Nat.mul_one,List.drop_eq_getElem_cons (by rw[List.length_map];exact hi'),qah hi'];simp
    rw[e];exact qn3 _ (by rw[qah hi'];exact hv _ (List.getElem_mem hi')) 251
  obtain⟨ls,hls⟩:=h167;have e:((B.map fun(b:Nat)=>Value.int .u8 (b:Int)).drop 0).take (Tryz.prog.cellsOf 167)=B.map fun(b:Nat)=>Value.int .u8 (b:Int):=by
   rw[List.drop_zero,c2,List.take_of_length_le (by rw[hlen];exact Nat.le_refl _)]
  simp only[List.mapM_cons,List.mapM_nil,e,hls];exact⟨_,rfl⟩
 obtain⟨ls,hls⟩:=hlits;unfold keyOf;simp only[Tryz.underlying169];rw[if_pos (by
  rw[qk4];simp[Value.formed,Tryz.underlying169,c1,hl])]
 have e:(Value.agg (B.map fun(b:Nat)=>Value.int .u8 (b:Int)).toArray).cells.toList=B.map fun(b:Nat)=>Value.int .u8 (b:Int):=by simp[Value.cells]
 rw[e,hls];exact⟨_,rfl⟩
theorem qc9:Keyed Tryz.prog 169:=Keyed.of_law (deep_law_laid (m:=254) (by kernel_rfl) (by decide) (by rw[qbm];decide) (by kernel_rfl) (by simp[Tryz.underlying169]))
theorem qmw:Tryz.prog.cellsOf 73=64∧Tryz.prog.cellsOf 71=64∧Tryz.prog.cellsOf 4=1:=⟨by kernel_rfl,by kernel_rfl,by kernel_rfl⟩
theorem qmx:Tryz.prog.keyType 73=true:=by kernel_rfl
theorem qhk (b:Bool) (d:Nat):Tryz.prog.keyLits (d+1) 4 [.bool b]=some [.bool b]:=by
 unfold Program.keyLits;simp only[Tryz.underlying4]
theorem qfl (B:List Bool) (hl:B.length=64):∃l,keyOf Tryz.prog 73 (.agg (B.map fun(b:Bool)=>Value.bool b).toArray)=some l:=by
 obtain⟨c1,c2,c3⟩:=qmw;have hlits:∃ls,Tryz.prog.keyLits (Tryz.prog.types.size+1) 73 (B.map fun(b:Bool)=>Value.bool b)=some ls:=by
  rw[qbm];unfold Program.keyLits;simp only[Tryz.underlying73];have hlen:(B.map fun(b:Bool)=>Value.bool b).length=64:=by rw[List.length_map,hl]
  rw[if_pos ⟨by rw[hlen,c1],by first|(simp;done)|kernel_rfl⟩];have h71:∃ls,Tryz.prog.keyLits 253 71 (B.map fun(b:Bool)=>Value.bool b)=some ls:=by
   unfold Program.keyLits;simp only[Tryz.underlying71];rw[if_pos (by rw[hlen,c2]),mapM_some _ (fun i=>[Lit.bool (B.getD i false)]) (List.range 64) (fun i hi=>?_)]
   ·exact⟨_,rfl⟩
   ·have hi':i<B.length:=by rw[hl];exact List.mem_range.1 hi
    have e:((B.map fun(b:Bool)=>Value.bool b).drop (i*Tryz.prog.cellsOf 4)).take (Tryz.prog.cellsOf 4)=[.bool (B.getD i false)]:=by
     rw[c3,Nat.mul_one,List.drop_eq_getElem_cons (by rw[List.length_map];exact hi')];simp[List.getD_eq_getElem?_getD,hi']
    rw[e];exact qhk _ 251
  obtain⟨ls,hls⟩:=h71;have e:((B.map fun(b:Bool)=>Value.bool b).drop 0).take (Tryz.prog.cellsOf 71)=B.map fun(b:Bool)=>Value.bool b:=by
   rw[List.drop_zero,c2,List.take_of_length_le (by rw[hlen];exact Nat.le_refl _)]
  simp only[List.mapM_cons,List.mapM_nil,e,hls];exact⟨_,rfl⟩
 obtain⟨ls,hls⟩:=hlits;unfold keyOf;simp only[Tryz.underlying73];rw[if_pos (by
  rw[qmx];simp[Value.formed,Tryz.underlying73,c1,hl])]
 have e:(Value.agg (B.map fun(b:Bool)=>Value.bool b).toArray).cells.toList=B.map fun(b:Bool)=>Value.bool b:=by simp[Value.cells]
 rw[e,hls];exact⟨_,rfl⟩
theorem qdz:Keyed Tryz.prog 73:=Keyed.of_law (deep_law_laid (m:=254) (by kernel_rfl) (by decide) (by rw[qbm];decide) (by kernel_rfl) (by simp[Tryz.underlying73]))
def prV (p:Nat×Nat):Array Value:=#[.int .i64 (p.1:Int),.int .i64 (p.2:Int)]
theorem qhl (p:Nat×Nat):(prV p).size=2:=rfl
theorem qi2 (p:Nat×Nat):(prV p).all (·.oneCell')=true:=by simp[prV,Value.oneCell']
theorem qi3 {p q:Nat×Nat} (h:prV p=prV q):p=q:=by
 simp only[prV,Array.mk.injEq,List.cons.injEq,Value.int.injEq] at h;obtain⟨h1,h2,_⟩:=h;apply Prod.ext<;>omega
theorem Tryz.info101:(Tryz.prog.info? 101).map (fun i=>(i.zero,i.size))=some (some (.agg #[.int .i64 0,.int .i64 0]),2):=by kernel_rfl
theorem Tryz.info101b:(Tryz.prog.info? 101).map (fun i=>(i.zero,i.size,i.bytes))=some (some (.agg #[.int .i64 0,.int .i64 0]),2,16):=by kernel_rfl
theorem qk5:Tryz.prog.cellsOf 101=2∧Tryz.prog.cellsOf 3=1:=⟨by kernel_rfl,by kernel_rfl⟩
theorem qk6:Tryz.prog.keyType 101=true:=by kernel_rfl
theorem qi4 (n:Nat) (hn:n≤4294967296) (d:Nat):Tryz.prog.keyLits (d+1) 3 [.int .i64 (n:Int)]=some [.int .i64 (n:Int)]:=by
 unfold Program.keyLits;simp only[Tryz.underlying3];rw[if_pos (by simp[Lit.wf,IntKind.min,IntKind.max,IntKind.signed,IntKind.bits];omega)]
theorem keyOf_pair (p:Nat×Nat) (h1:p.1≤4294967296) (h2:p.2≤4294967296):∃l,keyOf Tryz.prog 101 (.agg (prV p))=some l:=by
 obtain⟨c1,c3⟩:=qk5;have hlits:∃ls,Tryz.prog.keyLits (Tryz.prog.types.size+1) 101 [.int .i64 (p.1:Int),.int .i64 (p.2:Int)]=some ls:=by
  rw[qbm];unfold Program.keyLits;simp only[Tryz.underlying101];rw[if_pos ⟨by rw[c1];rfl,by first|(simp;done)|kernel_rfl⟩];simp only[List.mapM_cons,List.mapM_nil,c3];have e1:(([.int .i64 (p.1:Int),.int .i64 (p.2:Int)]:List Value).drop 0).take 1=[.int .i64 (p.1:Int)]:=rfl;have e2:(([.int .i64 (p.1:Int),.int .i64 (p.2:Int)]:List Value).drop 1).take 1=[.int .i64 (p.2:Int)]:=rfl;simp only[e1,e2,qi4 _ h1,qi4 _ h2];exact⟨_,rfl⟩
 obtain⟨ls,hls⟩:=hlits;unfold keyOf;simp only[Tryz.underlying101];rw[if_pos (by
  rw[qk6];simp[Value.formed,Tryz.underlying101,c1,prV])]
 have e:(Value.agg (prV p)).cells.toList=[.int .i64 (p.1:Int),.int .i64 (p.2:Int)]:=rfl;rw[e,hls];exact⟨_,rfl⟩
theorem qbg:Keyed Tryz.prog 101:=Keyed.of_law (deep_law_laid (m:=254) (by kernel_rfl) (by decide) (by rw[qbm];decide) (by kernel_rfl) (by simp[Tryz.underlying101]))
theorem qi5:∃lit:Nat×Nat→Lit,∀p:Nat×Nat,p.1≤4294967296→p.2≤4294967296→keyOf Tryz.prog 101 (.agg (prV p))=some (lit p):=by
 classical
 refine⟨fun p=>if h:p.1≤4294967296∧p.2≤4294967296 then(keyOf_pair p h.1 h.2).choose else .bool false,fun p h1 h2=>?_⟩;simp only[dif_pos (And.intro h1 h2)];exact(keyOf_pair p h1 h2).choose_spec
end Go.Proofs.YtdgoilkgplnhfaaGreat

