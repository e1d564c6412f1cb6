/-
  The document's parts of states: parted by labels, and again by where columns lead, till nothing changes. Of no program's walk: the conditions are named.
-/
import Derived.Test.YtdgoilkgplnhfaaGreatJ06
namespace Go.Proofs.YtdgoilkgplnhfaaGreat
structure RdT (D:DF) (l:List Nat):Prop where
 n:∀s∈l,s<D.n
 z:0∈l
 cl:∀s∈l,∀b,b<256→D.step s b∈l
 re:∀s∈l,∃t,Txt t∧D.run 0 t=s
structure DpS (D:DF) (l:List Nat) (f:Nat→Nat) (m:Nat):Prop where
 lt:∀s∈l,f s<m
 hit:∀r,r<m→∃s,s∈l∧f s=r
 eqv:∀s∈l,∀t∈l,D.Eqv s t→f s=f t
 lab:∀s∈l,∀t∈l,f s=f t→D.ou s=D.ou t
 z:f 0=0
theorem qia {l:List Nat} {f g:Nat→Nat} {m:Nat} (hf:∀s∈l,f s<m) (hg:∀r,r<m→∃s,s∈l∧g s=r) (href:∀s∈l,∀t∈l,f s=f t→g s=g t):∀s∈l,∀t∈l,g s=g t→f s=f t:=fun s hs t ht e=>by
 apply Classical.byContradiction;intro hne;have hc:∀r,∃u,r<m→u∈l∧g u=r:=fun r=>by
  by_cases hr:r<m
  ·obtain⟨u,hu⟩:=hg r hr
   exact⟨u,fun _=>hu⟩
  ·exact⟨0,fun h=>absurd h hr⟩
 obtain⟨h,hh⟩:∃h:Nat→Nat,∀r,r<m→h r∈l∧g (h r)=r:=⟨fun r=>(hc r).choose,fun r=>(hc r).choose_spec⟩;obtain⟨x,hx,hx1,hx2⟩:∃x,x∈l∧g x=g s∧f (h (g s))≠f x:=by
  by_cases h1:f (h (g s))=f s
  ·exact⟨t,ht,e.symm,fun h2=>hne (h1.symm.trans h2)⟩
  ·exact⟨s,hs,rfl,h1⟩
 have:=qax m (m+1) (fun r=>if r<m then f (h r) else f x) (fun i hi=>by
  by_cases h1:i<m
  ·simp only[if_pos h1];exact hf _ (hh i h1).1
  ·simp only[if_neg h1];exact hf _ hx) (fun i hi j hj e1=>by
  have key:∀r,r<m→f (h r)=f x→False:=fun r hr e2=>by
   have h1:=href _ (hh r hr).1 _ hx e2;rw[(hh r hr).2,hx1] at h1;rw[h1] at e2;exact hx2 e2
  by_cases h1:i<m
  ·by_cases h2:j<m
   ·simp only[if_pos h1,if_pos h2] at e1
    have h3:=href _ (hh i h1).1 _ (hh j h2).1 e1;rw[(hh i h1).2,(hh j h2).2] at h3;exact h3
   ·simp only[if_pos h1,if_neg h2] at e1
    exact(key i h1 e1).elim
  ·by_cases h2:j<m
   ·simp only[if_neg h1,if_pos h2] at e1
    exact(key j h2 e1.symm).elim
   ·omega)
 omega
structure SwS (D:DF) (l:List Nat) (g:Nat→Nat) (C:List Nat) (k:Nat) (f:Nat→Nat) (m:Nat):Prop extends DpS D l f m where
 ref:∀s∈l,∀t∈l,f s=f t→g s=g t
 st:∀s∈l,∀t∈l,f s=f t→∀j,j<k→g (D.nx s (gN C j))=g (D.nx t (gN C j))
section
variable {D:DF} {l C:List Nat} {f g f':Nat→Nat} {k m m' m0:Nat}
theorem SwS.start (h:DpS D l f m):SwS D l f C 0 f m:=⟨h,fun _ _ _ _ e=>e,fun _ _ _ _ _ j hj=>by omega⟩
theorem SwS.next (hr:RdT D l) (hg:DpS D l g m0) (h:SwS D l g C k f m) (hC:∃b,b<256∧D.bc b=gN C k) (hlt:∀s∈l,f' s<m') (hhit:∀r,r<m'→∃s,s∈l∧f' s=r) (hz:f' 0=0)
 (hs:∀s∈l,∀t∈l,(f' s=f' t↔f s=f t∧g (D.nx s (gN C k))=g (D.nx t (gN C k)))):SwS D l g C (k+1) f' m':=by
 obtain⟨b,hb,eb⟩:=hC;refine⟨⟨hlt,hhit,fun s h1 t h2 e=>(hs s h1 t h2).2 ⟨h.eqv s h1 t h2 e,?_⟩,fun s h1 t h2 e=>h.lab s h1 t h2 ((hs s h1 t h2).1 e).1,hz⟩,fun s h1 t h2 e=>h.ref s h1 t h2 ((hs s h1 t h2).1 e).1,fun s h1 t h2 e j hj=>?_⟩
 ·rw[←eb]
  exact hg.eqv _ (hr.cl s h1 b hb) _ (hr.cl t h2 b hb) (e.step hb)
 ·obtain⟨e1,e2⟩:=(hs s h1 t h2).1 e
  by_cases hjk:j<k
  ·exact h.st s h1 t h2 e1 j hjk
  ·rw[show j=k by omega];exact e2
theorem SwS.done (hr:RdT D l) (hg:DpS D l g m) (h:SwS D l g C C.length f m) (hC:∀b,b<256→∃j,j<C.length∧∀s∈l,D.nx s (D.bc b)=D.nx s (gN C j)):∀s∈l,∀t∈l,(f s=f t↔D.Eqv s t):=by
 have hsame:=qia h.lt hg.hit h.ref;have key:∀(u:List Nat) (s t:Nat),s∈l→t∈l→f s=f t→Txt u→D.lab s u=D.lab t u:=by
  intro u
  induction u with
  |nil=>intro s t hs ht e _;exact h.lab s hs t ht e
  |cons b u ih=>
   intro s t hs ht e hu;obtain⟨hb,hu⟩:=hu.tail;show D.lab (D.step s b) u=D.lab (D.step t b) u;refine ih _ _ (hr.cl s hs b hb) (hr.cl t ht b hb) (hsame _ (hr.cl s hs b hb) _ (hr.cl t ht b hb) ?_) hu;obtain⟨j,hj,ej⟩:=hC b hb;unfold DF.step;rw[ej s hs,ej t ht];exact h.st s hs t ht e j hj
 exact fun s hs t ht=>⟨fun e u hu=>key u s t hs ht e hu,fun e=>h.eqv s hs t ht e⟩
end
theorem qm1 {D:DF} {l:List Nat} (hr:RdT D l) {N:Nat} {g:Nat→Nat} (hg:∀i,i<N→g i∈l) (hne:∀i,i<N→∀j,j<N→D.Eqv (g i) (g j)→i=j) {E:DF} (hE:E.Ok) (hl:∀t,Txt t→E.lab 0 t=D.lab 0 t):N≤E.n:=by
 have hc:∀i,∃s',i<N→s'<E.n∧∀u,Txt u→E.lab s' u=D.lab (g i) u:=fun i=>by
  by_cases hi:i<N
  ·obtain⟨t,k1,k2⟩:=hr.re (g i) (hg i hi)
   refine⟨E.run 0 t,fun _=>⟨hE.run hE.n0 k1,fun u hu=>?_⟩⟩;have:=hl (t++u) (k1.app hu);unfold DF.lab at this ⊢;rw[DF.run_app,DF.run_app,k2] at this;exact this
  ·exact⟨0,fun h=>absurd h hi⟩
 refine qax E.n N (fun i=>(hc i).choose) (fun i hi=>((hc i).choose_spec hi).1) (fun i hi j hj e=>hne i hi j hj (fun u hu=>?_));have e':(hc i).choose=(hc j).choose:=e;rw[←((hc i).choose_spec hi).2 u hu,←((hc j).choose_spec hj).2 u hu,e']
structure KnS (l:List Nat) (key:Nat→Nat) (k:Nat) (PL NU:List Nat) (m:Nat):Prop where
 a:∀i,i<k→gN NU (key (gN l i))=gN PL (gN l i)+1
 b:∀i,i<k→gN PL (gN l i)<m
 c:∀x,gN NU x≠0→∃i,i<k∧key (gN l i)=x
 d:∀r,r<m→∃i,i<k∧gN PL (gN l i)=r
 e:∀x y,gN NU x≠0→gN NU x=gN NU y→x=y
 z:0<k→gN PL (gN l 0)=0
theorem qbp {L:List Nat} {i j v:Nat} (h:i<L.length):gN (L.set i v) j=if j=i then v else gN L j:=by
 unfold gN;simp only[List.getD_eq_getElem?_getD,List.getElem?_set];by_cases e:i=j
 ·subst e;simp[h]
 ·rw[if_neg e,if_neg (fun h=>e h.symm)]
section
variable {l PL NU:List Nat} {key:Nat→Nat} {k m:Nat}
theorem KnS.start (h:∀x,gN NU x=0):KnS l key 0 PL NU 0:=⟨fun i hi=>by omega,fun i hi=>by omega,fun x hx=>absurd (h x) hx,fun r hr=>by omega,fun x _ hx=>absurd (h x) hx,fun hk=>by omega⟩
theorem KnS.old (h:KnS l key k PL NU m) (hl:gN l k<PL.length) (hk:gN NU (key (gN l k))≠0):KnS l key (k+1) (PL.set (gN l k) (gN NU (key (gN l k))-1)) NU m:=by
 obtain⟨i0,h1,h2⟩:=h.c _ hk;have e0:=h.a i0 h1;have b0:=h.b i0 h1;rw[h2] at e0;have ge:∀i,i<k+1→gN (PL.set (gN l k) (gN NU (key (gN l k))-1)) (gN l i)+1=gN NU (key (gN l i)):=fun i hi=>by
  rw[qbp hl];by_cases e:gN l i=gN l k
  ·rw[if_pos e,e];omega
  ·rw[if_neg e]
   have hik:i<k:=by
    rcases Nat.lt_or_ge i k with h3|h3
    ·exact h3
    ·exact absurd (show gN l i=gN l k by rw[show i=k by omega]) e
   exact(h.a i hik).symm
 refine⟨fun i hi=>(ge i hi).symm,fun i hi=>?_,fun x hx=>?_,fun r hr=>?_,h.e,fun _=>?_⟩
 ·have h3:=ge i hi
  by_cases hik:i<k
  ·have h4:=h.a i hik
   have h5:=h.b i hik;omega
  ·rw[show i=k by omega] at h3 ⊢
   omega
 ·obtain⟨i,h3,h4⟩:=h.c x hx
  exact⟨i,by omega,h4⟩
 ·obtain⟨i,h3,h4⟩:=h.d r hr
  refine⟨i,by omega,?_⟩;have h5:=ge i (by omega);have h6:=h.a i h3;omega
 ·have h5:=ge 0 (by omega)
  have h6:=h.a 0 (by omega);have h7:=h.z (by omega);omega
theorem KnS.new (h:KnS l key k PL NU m) (hl:gN l k<PL.length) (hn:key (gN l k)<NU.length) (hk:gN NU (key (gN l k))=0):KnS l key (k+1) (PL.set (gN l k) m) (NU.set (key (gN l k)) (m+1)) (m+1):=by
 have hkey:∀i,i<k→key (gN l i)≠key (gN l k):=fun i hi e=>by
  have:=h.a i hi;rw[e,hk] at this;omega
 have hle:∀x,gN NU x≤m:=fun x=>by
  by_cases hx:gN NU x=0
  ·omega
  ·obtain⟨i,h1,h2⟩:=h.c x hx
   have h3:=h.a i h1;have h4:=h.b i h1;rw[h2] at h3;omega
 have g1:∀i,i<k→gN (PL.set (gN l k) m) (gN l i)=gN PL (gN l i):=fun i hi=>by
  rw[qbp hl,if_neg (fun e=>hkey i hi (by rw[e]))]
 have g2:∀i,i<k→gN (NU.set (key (gN l k)) (m+1)) (key (gN l i))=gN NU (key (gN l i)):=fun i hi=>by
  rw[qbp hn,if_neg (hkey i hi)]
 have p1:gN (PL.set (gN l k) m) (gN l k)=m:=by rw[qbp hl,if_pos rfl]
 have p2:gN (NU.set (key (gN l k)) (m+1)) (key (gN l k))=m+1:=by rw[qbp hn,if_pos rfl]
 refine⟨fun i hi=>?_,fun i hi=>?_,fun x hx=>?_,fun r hr=>?_,fun x y hx e=>?_,fun _=>?_⟩
 ·by_cases hik:i<k
  ·rw[g1 i hik,g2 i hik];exact h.a i hik
  ·rw[show i=k by omega,p1,p2]
 ·by_cases hik:i<k
  ·rw[g1 i hik];have:=h.b i hik;omega
  ·rw[show i=k by omega,p1];omega
 ·by_cases hxk:x=key (gN l k)
  ·exact⟨k,by omega,hxk.symm⟩
  ·rw[qbp hn,if_neg hxk] at hx
   obtain⟨i,h1,h2⟩:=h.c x hx;exact⟨i,by omega,h2⟩
 ·by_cases hrm:r<m
  ·obtain⟨i,h1,h2⟩:=h.d r hrm
   exact⟨i,by omega,by rw[g1 i h1];exact h2⟩
  ·exact⟨k,by omega,by rw[p1];omega⟩
 ·rw[qbp hn,qbp hn] at e
  rw[qbp hn] at hx;have hx1:=hle x;have hy1:=hle y;by_cases h1:x=key (gN l k)
  ·by_cases h2:y=key (gN l k)
   ·rw[h1,h2]
   ·rw[if_pos h1,if_neg h2] at e;omega
  ·by_cases h2:y=key (gN l k)
   ·rw[if_neg h1,if_pos h2] at e;omega
   ·rw[if_neg h1,if_neg h2] at e
    rw[if_neg h1] at hx;exact h.e x y hx e
 ·by_cases hk0:k=0
  ·subst hk0
   rw[p1];apply Classical.byContradiction;intro hm;obtain⟨i,hi,_⟩:=h.d 0 (by omega);omega
  ·rw[g1 0 (by omega)];exact h.z (by omega)
theorem KnS.same (h:KnS l key k PL NU m) {i j:Nat} (hi:i<k) (hj:j<k):gN PL (gN l i)=gN PL (gN l j)↔key (gN l i)=key (gN l j):=by
 have h1:=h.a i hi;have h2:=h.a j hj;refine⟨fun e=>h.e _ _ (by omega) (by omega),fun e=>?_⟩;rw[e] at h1;omega
theorem KnS.apart (h:KnS l key k PL NU m) (hk:k≤l.length) {D:DF} (hq:∀s∈l,∀t∈l,D.Eqv s t→key s=key t):∃g:Nat→Nat,(∀i,i<m→g i∈l)∧∀i,i<m→∀j,j<m→D.Eqv (g i) (g j)→i=j:=by
 have hc:∀r,∃i,r<m→i<k∧gN PL (gN l i)=r:=fun r=>by
  by_cases hr:r<m
  ·obtain⟨i,hi⟩:=h.d r hr
   exact⟨i,fun _=>hi⟩
  ·exact⟨0,fun h=>absurd h hr⟩
 have mem:∀i,i<k→gN l i∈l:=fun i hi=>by rw[qah (by omega)];exact List.getElem_mem _
 refine⟨fun r=>gN l (hc r).choose,fun i hi=>mem _ ((hc i).choose_spec hi).1,fun i hi j hj e=>?_⟩;have h1:=(hc i).choose_spec hi;have h2:=(hc j).choose_spec hj;have:=(h.same h1.1 h2.1).2 (hq _ (mem _ h1.1) _ (mem _ h2.1) e);rw[h1.2,h2.2] at this;exact this
theorem qcw {l:List Nat} {s:Nat} (h:s∈l):∃i,i<l.length∧gN l i=s:=by
 obtain⟨i,hi,e⟩:=List.getElem_of_mem h;exact⟨i,hi,by rw[qah hi];exact e⟩
end
theorem qbf.self {α:Type} {look:Nat→α} {N M:Nat} {num fst:Nat→Nat} (h:qbf look N num fst M):qbf num N num fst M:=
 ⟨h.numlt,fun i hi=>h.numfst _ (h.numlt i hi),h.fstlt,h.numfst,fun k hk i hi e=>h.first k hk i hi ((h.same (by have:=h.fstlt k hk;omega) (h.fstlt k hk)).1 e),h.inc⟩
def qdh (D:DF) (f one:Nat→Nat) (m c:Nat):List Nat:=(List.range m).map fun p=>f (D.nx (one p) c)
theorem qex (D:DF) (f one:Nat→Nat) (m c:Nat):(qdh D f one m c).length=m:=by simp[qdh]
theorem qdb (D:DF) (f one:Nat→Nat) (m c:Nat) {p:Nat} (h:p<m):gN (qdh D f one m c) p=f (D.nx (one p) c):=by
 rw[qah (by rw[qex];exact h)];simp[qdh]
def quD (D:DF) (one:Nat→Nat) (m:Nat) (R:List (List Nat)) (col:Nat→Nat):DF:=⟨m,R.length,col,fun p c=>gN (R.getD c []) p,fun p=>D.ou (one p)⟩
structure QuS (D:DF) (l:List Nat) (f one:Nat→Nat) (m:Nat) (R:List (List Nat)) (col F:Nat→Nat):Prop where
 rd:RdT D l
 m0:0<m
 lt:∀s∈l,f s<m
 eqv:∀s∈l,∀t∈l,(f s=f t↔D.Eqv s t)
 z:f 0=0
 on:∀p,p<m→one p∈l∧f (one p)=p
 nf:qbf (fun b=>qdh D f one m (D.bc b)) 256 col F R.length
 row:∀c,c<R.length→R.getD c []=qdh D f one m (D.bc (F c))
section
variable {D:DF} {l:List Nat} {f one:Nat→Nat} {m:Nat} {R:List (List Nat)} {col F:Nat→Nat}
theorem QuS.nx (h:QuS D l f one m R col F) {p b:Nat} (hp:p<m) (hb:b<256):gN (R.getD (col b) []) p=f (D.step (one p) b):=by
 rw[h.row _ (h.nf.numlt b hb)];have:qdh D f one m (D.bc (F (col b)))=qdh D f one m (D.bc b):=h.nf.lk b hb;rw[this,qdb _ _ _ _ _ hp];rfl
theorem QuS.step (h:QuS D l f one m R col F) {s b:Nat} (hs:s∈l) (hb:b<256):(quD D one m R col).step (f s) b=f (D.step s b):=by
 have hp:=h.lt s hs;show gN (R.getD (col b) []) (f s)=_;rw[h.nx hp hb];obtain⟨h1,h2⟩:=h.on _ hp;exact(h.eqv _ (h.rd.cl _ h1 b hb) _ (h.rd.cl _ hs b hb)).2 (((h.eqv _ h1 _ hs).1 h2).step hb)
theorem QuS.ok (h:QuS D l f one m R col F):(quD D one m R col).Ok:=by
 refine⟨h.m0,(h.nf.zero (by decide)).2,fun b hb=>h.nf.numlt b hb,fun p hp c hc=>?_⟩;have hc':c<R.length:=hc;have hp:p<m:=hp;show gN (R.getD c []) p<m;rw[h.row c hc',qdb _ _ _ _ _ hp];exact h.lt _ (h.rd.cl _ (h.on p hp).1 _ (h.nf.fstlt c hc'))
theorem QuS.run (h:QuS D l f one m R col F):∀(t:List Nat) (s:Nat),s∈l→Txt t→(quD D one m R col).run (f s) t=f (D.run s t)∧D.run s t∈l
 |[],s,hs,_=>⟨rfl,hs⟩
 |b::t,s,hs,ht=>by
  obtain⟨hb,ht⟩:=ht.tail;rw[DF.run_cons,DF.run_cons,h.step hs hb];exact h.run t _ (h.rd.cl s hs b hb) ht
theorem QuS.lab (h:QuS D l f one m R col F) {s:Nat} (hs:s∈l) {t:List Nat} (ht:Txt t):(quD D one m R col).lab (f s) t=D.lab s t:=by
 obtain⟨h1,h2⟩:=h.run t s hs ht;unfold DF.lab;rw[h1];obtain⟨h3,h4⟩:=h.on _ (h.lt _ h2);have:=(h.eqv _ h3 _ h2).1 h4 [] Txt.nil;exact this
theorem QuS.dist (h:QuS D l f one m R col F) {p q:Nat} (hp:p<m) (hq:q<m) (e:(quD D one m R col).Eqv p q):p=q:=by
 obtain⟨h1,h2⟩:=h.on p hp;obtain⟨h3,h4⟩:=h.on q hq;have:D.Eqv (one p) (one q):=fun u hu=>by
  have:=e u hu;rw[←h2,←h4,h.lab h1 hu,h.lab h3 hu] at this;exact this
 have:=(h.eqv _ h1 _ h3).2 this;rw[h2,h4] at this;exact this
theorem QuS.cold (h:QuS D l f one m R col F) {c d:Nat} (hc:c<R.length) (hd:d<R.length) (e:∀p,p<m→gN (R.getD c []) p=gN (R.getD d []) p):c=d:=by
 have e1:qdh D f one m (D.bc (F c))=qdh D f one m (D.bc (F d)):=by
  unfold qdh;refine List.map_congr_left (fun p hp=>?_);have hp:=List.mem_range.1 hp;have:=e p hp;rw[h.row c hc,h.row d hd,qdb _ _ _ _ _ hp,qdb _ _ _ _ _ hp] at this;exact this
 have:=(h.nf.same (h.nf.fstlt c hc) (h.nf.fstlt d hd)).2 e1;rw[h.nf.numfst c hc,h.nf.numfst d hd] at this;exact this
end
theorem QuS.done {D:DF} {l:List Nat} {f one:Nat→Nat} {m:Nat} {R:List (List Nat)} {col fst St X:List Nat} (h:QuS D l f one m R (gN col) (gN fst)) (hf:fst.length=R.length) (rc:RcS (quD D one m R (gN col)) fst St X St.length 0):
 (rcD (quD D one m R (gN col)) col fst St X).Right∧∀t,Txt t→(rcD (quD D one m R (gN col)) col fst St X).lab 0 t=D.lab 0 t:=by
 have nf:qbf (quD D one m R (gN col)).bc 256 (gN col) (gN fst) fst.length:=by rw[hf];exact h.nf.self
 obtain⟨hp,hl⟩:=rc.done nf;have hlen:X.length=St.length*fst.length:=by have:=rc.len;omega
 have hst:∀s,s<St.length→∀b,b<256→(rcD (quD D one m R (gN col)) col fst St X).step s b<St.length∧gN St ((rcD (quD D one m R (gN col)) col fst St X).step s b)=(quD D one m R (gN col)).step (gN St s) b:=fun s hs b hb=>by
  have hcl:=nf.numlt b hb;have hq:s*fst.length+gN col b<X.length:=by rw[hlen];exact qcd hs hcl
  obtain⟨k1,k2⟩:=rc.nxt _ hq;obtain⟨e1,e2⟩:=qbt (i:=s) hcl;rw[e1,e2] at k2;refine⟨k1,k2.trans ?_⟩;unfold DF.step;rw[nf.lk b hb]
 have hrun:∀(t:List Nat) (s:Nat),Txt t→s<St.length→(rcD (quD D one m R (gN col)) col fst St X).run s t<St.length∧gN St ((rcD (quD D one m R (gN col)) col fst St X).run s t)=(quD D one m R (gN col)).run (gN St s) t:=by
  intro t
  induction t with
  |nil=>intro s _ hs;exact⟨hs,rfl⟩
  |cons b t ih=>
   intro s ht hs;obtain⟨k1,k2⟩:=hst s hs b ht.tail.1;rw[DF.run_cons,DF.run_cons,←k2];exact ih _ ht.tail.2 k1
 have hlab:∀s,s<St.length→∀t,Txt t→(rcD (quD D one m R (gN col)) col fst St X).lab s t=(quD D one m R (gN col)).lab (gN St s) t:=fun s hs t ht=>by
  unfold DF.lab;rw[←(hrun t s ht hs).2];rfl
 have h0:∀t,Txt t→(quD D one m R (gN col)).lab 0 t=D.lab 0 t:=fun t ht=>by
  have:=h.lab h.rd.z ht;rw[h.z] at this;exact this
 refine⟨⟨hp.toOk,hp.reach,fun s hs t ht e=>?_,fun c hc d hd e=>?_,hp.colf,hp.cols,fun s hs c hc v h1 h2=>?_⟩,fun t ht=>by rw[hl t ht];exact h0 t ht⟩
 ·have hs':s<St.length:=hs
  have ht':t<St.length:=ht;refine rc.nd s hs' t ht' (h.dist (rc.lt s hs') (rc.lt t ht') (fun u hu=>?_));rw[←hlab s hs' u hu,←hlab t ht' u hu];exact e u hu
 ·have hc':c<fst.length:=hc
  have hd':d<fst.length:=hd;refine h.cold (by omega) (by omega) (fun p hp'=>?_);obtain⟨h1,h2⟩:=h.on p hp';obtain⟨t,t1,t2⟩:=h.rd.re _ h1;obtain⟨k1,k2⟩:=hrun t 0 t1 rc.s0.1;have k3:=(h.run t 0 h.rd.z t1).1;rw[h.z,t2,h2] at k3;rw[rc.s0.2,k3] at k2;have key:∀c,c<fst.length→gN (R.getD c []) p=gN St ((rcD (quD D one m R (gN col)) col fst St X).nx ((rcD (quD D one m R (gN col)) col fst St X).run 0 t) c):=fun c hc=>by
   have hq:(rcD (quD D one m R (gN col)) col fst St X).run 0 t*fst.length+c<X.length:=by rw[hlen];exact qcd k1 hc
   obtain⟨j1,j2⟩:=rc.nxt _ hq;obtain⟨e1,e2⟩:=qbt (i:=(rcD (quD D one m R (gN col)) col fst St X).run 0 t) hc;rw[e1,e2,k2] at j2;show _=gN St (gN X _);rw[j2];show _=gN (R.getD (gN col (gN fst c)) []) p;rw[nf.numfst c hc]
  rw[key c hc',key d hd',e _ k1]
 ·obtain⟨s',c',k0,k1,k2,k3⟩:=hp.stf s hs c hc v h1 h2
  exact⟨s',c',k1,k2,k3⟩
def gB (B:List Bool) (i:Nat):Bool:=B.getD i false
theorem qjd {B:List Bool} {i j:Nat} {v:Bool} (h:i<B.length):gB (B.set i v) j=if j=i then v else gB B j:=by
 unfold gB;simp only[List.getD_eq_getElem?_getD,List.getElem?_set];by_cases e:i=j
 ·subst e;simp[h]
 ·rw[if_neg e,if_neg (fun h=>e h.symm)]
theorem qhm (n i:Nat):gB (List.replicate n false) i=false:=by
 unfold gB;by_cases h:i<n
 ·simp[List.getD_eq_getElem?_getD,h]
 ·rw[List.getD_eq_getElem?_getD,List.getElem?_eq_none (by simp;omega)]
  rfl
theorem qg0 (n i:Nat):gN (List.replicate n 0) i=0:=by
 unfold gN;by_cases h:i<n
 ·simp[List.getD_eq_getElem?_getD,h]
 ·rw[List.getD_eq_getElem?_getD,List.getElem?_eq_none (by simp;omega)]
  rfl
structure ClT (bc:Nat→Nat) (b:Nat) (B:List Bool) (L:List Nat):Prop where
 bl:B.length=256
 fl:∀c,c<256→(gB B c=true↔c∈L)
 al:∀b',b'<b→bc b'∈L
 of:∀c∈L,∃b',b'<b∧bc b'=c
 len:L.length≤b
section
variable {bc:Nat→Nat} {b:Nat} {B:List Bool} {L:List Nat}
theorem ClT.start:ClT bc 0 (List.replicate 256 false) []:=⟨List.length_replicate,fun c _=>by rw[qhm];simp,fun b' h=>by omega,fun c h=>(by cases h),Nat.le_refl _⟩
theorem ClT.old (h:ClT bc b B L) (hc:bc b<256) (hB:gB B (bc b)=true):ClT bc (b+1) B L:=by
 have hm:=(h.fl _ hc).1 hB;refine⟨h.bl,h.fl,fun b' hb=>?_,fun c h1=>?_,by have:=h.len;omega⟩
 ·rcases Nat.lt_or_ge b' b with h1|h1
  ·exact h.al b' h1
  ·rw[show b'=b by omega];exact hm
 ·obtain⟨b',h2,h3⟩:=h.of c h1
  exact⟨b',by omega,h3⟩
theorem ClT.new (h:ClT bc b B L) (hc:bc b<256):ClT bc (b+1) (B.set (bc b) true) (L++[bc b]):=by
 have hbl:=h.bl;refine⟨by rw[List.length_set];exact hbl,fun c hc'=>?_,fun b' hb=>?_,fun c h1=>?_,by have:=h.len;simp;omega⟩
 ·rw[qjd (by omega)]
  by_cases e:c=bc b
  ·rw[if_pos e];simp[e]
  ·rw[if_neg e,h.fl c hc'];simp[e]
 ·rcases Nat.lt_or_ge b' b with h1|h1
  ·exact List.mem_append_left _ (h.al b' h1)
  ·rw[show b'=b by omega];simp
 ·rcases List.mem_append.1 h1 with h1|h1
  ·obtain⟨b',h2,h3⟩:=h.of c h1
   exact⟨b',by omega,h3⟩
  ·exact⟨b,by omega,(List.mem_singleton.1 h1).symm⟩
end
structure RhS (D:DF) (C:List Nat) (B:List Bool) (l:List Nat) (i k:Nat):Prop where
 bl:B.length=D.n
 nd:∀a,a<l.length→∀b,b<l.length→gN l a=gN l b→a=b
 lt:∀s∈l,s<D.n
 fl:∀s,s<D.n→(gB B s=true↔s∈l)
 z:0<l.length∧gN l 0=0
 re:∀s∈l,∃t,Txt t∧D.run 0 t=s
 dn:∀a,a<i→∀c∈C,D.nx (gN l a) c∈l
 dk:∀j,j<k→D.nx (gN l i) (gN C j)∈l
section
variable {D:DF} {C l:List Nat} {B:List Bool} {i k:Nat}
theorem qbo {l:List Nat} {i:Nat} (h:i<l.length):gN l i∈l:=by rw[qah h];exact List.getElem_mem h
theorem RhS.start (hn:0<D.n):RhS D C ((List.replicate D.n false).set 0 true) [0] 0 0:=by
 refine⟨by simp,fun _ ha _ hb _=>by simp at ha hb;omega,fun s hs=>?_,fun s hs=>?_,⟨by simp,rfl⟩,fun s hs=>⟨[],Txt.nil,(List.mem_singleton.1 hs).symm⟩,fun _ ha=>by omega,fun j hj=>by omega⟩
 ·rw[List.mem_singleton.1 hs];exact hn
 ·rw[qjd (by simp;exact hn)]
  by_cases e:s=0
  ·rw[if_pos e];simp[e]
  ·rw[if_neg e,qhm];simp[e]
theorem RhS.few (h:RhS D C B l i k):l.length≤D.n:=qax D.n l.length (gN l) (fun _ ha=>h.lt _ (qbo ha)) h.nd
theorem RhS.old (h:RhS D C B l i k) (hx:D.nx (gN l i) (gN C k)<D.n) (hB:gB B (D.nx (gN l i) (gN C k))=true):RhS D C B l i (k+1):=by
 refine⟨h.bl,h.nd,h.lt,h.fl,h.z,h.re,h.dn,fun j hj=>?_⟩;rcases Nat.lt_or_ge j k with h1|h1
 ·exact h.dk j h1
 ·rw[show j=k by omega];exact(h.fl _ hx).1 hB
theorem RhS.new (h:RhS D C B l i k) (hi:i<l.length) (hC:∃b,b<256∧D.bc b=gN C k) (hx:D.nx (gN l i) (gN C k)<D.n) (hB:gB B (D.nx (gN l i) (gN C k))=false):RhS D C (B.set (D.nx (gN l i) (gN C k)) true) (l++[D.nx (gN l i) (gN C k)]) i (k+1):=by
 obtain⟨b,hb,eb⟩:=hC;have hni:¬D.nx (gN l i) (gN C k)∈l:=fun hm=>by rw[(h.fl _ hx).2 hm] at hB;cases hB
 have hbl:=h.bl;obtain⟨t,t1,t2⟩:=h.re _ (qbo hi);have hz:=h.z;have gi:gN (l++[D.nx (gN l i) (gN C k)]) i=gN l i:=qau hi;generalize hX:D.nx (gN l i) (gN C k)=x at *;refine⟨by rw[List.length_set];exact hbl,fun a ha c hc e=>?_,fun s hs=>?_,fun s hs=>?_,⟨by simp,by rw[qau hz.1];exact hz.2⟩,fun s hs=>?_,fun a ha c hc=>?_,fun j hj=>?_⟩
 ·have mem:∀a,a<l.length→¬gN l a=x:=fun a ha e=>hni (by rw[←e];exact qbo ha)
  simp only[List.length_append,List.length_singleton] at ha hc;by_cases h1:a<l.length
  ·by_cases h2:c<l.length
   ·rw[qau h1,qau h2] at e;exact h.nd a h1 c h2 e
   ·rw[qau h1,show c=l.length by omega,qat] at e;exact absurd e (mem a h1)
  ·by_cases h2:c<l.length
   ·rw[qau h2,show a=l.length by omega,qat] at e;exact absurd e.symm (mem c h2)
   ·omega
 ·rcases List.mem_append.1 hs with hs|hs
  ·exact h.lt s hs
  ·rw[List.mem_singleton.1 hs];exact hx
 ·rw[qjd (by omega)]
  by_cases e:s=x
  ·rw[if_pos e];simp[e]
  ·rw[if_neg e,h.fl s hs];simp[e]
 ·rcases List.mem_append.1 hs with hs|hs
  ·exact h.re s hs
  ·rw[List.mem_singleton.1 hs]
   refine⟨t++[b],t1.snoc hb,?_⟩;rw[DF.run_snoc,t2];unfold DF.step;rw[eb];exact hX
 ·have hai:a<l.length:=by omega
  rw[qau hai];exact List.mem_append_left _ (h.dn a ha c hc)
 ·rw[gi]
  rcases Nat.lt_or_ge j k with h1|h1
  ·exact List.mem_append_left _ (h.dk j h1)
  ·rw[show j=k by omega,hX];simp
theorem RhS.row (h:RhS D C B l i C.length):RhS D C B l (i+1) 0:=by
 refine⟨h.bl,h.nd,h.lt,h.fl,h.z,h.re,fun a ha c hc=>?_,fun j hj=>by omega⟩;rcases Nat.lt_or_ge a i with h1|h1
 ·exact h.dn a h1 c hc
 ·rw[show a=i by omega]
  obtain⟨j,h2,h3⟩:=qcw hc;rw[←h3];exact h.dk j h2
theorem RhS.done (h:RhS D C B l l.length 0) (hC:∀b,b<256→D.bc b∈C):RdT D l:=by
 refine⟨h.lt,by rw[←h.z.2];exact qbo h.z.1,fun s hs b hb=>?_,h.re⟩;obtain⟨a,h1,h2⟩:=qcw hs;rw[←h2];exact h.dn a h1 _ (hC b hb)
end
structure UnS (D:DF) (l C:List Nat) (k:Nat) (U:List Nat):Prop where
 mem:∀c∈U,c∈C
 rep:∀j,j<k→∃i,i<U.length∧∀s∈l,D.nx s (gN C j)=D.nx s (gN U i)
 len:U.length≤k
section
variable {D:DF} {l C U:List Nat} {k:Nat}
theorem UnS.start:UnS D l C 0 []:=⟨fun c h=>(by cases h),fun j hj=>by omega,Nat.le_refl _⟩
theorem UnS.old (h:UnS D l C k U) {i:Nat} (hi:i<U.length) (he:∀s∈l,D.nx s (gN C k)=D.nx s (gN U i)):UnS D l C (k+1) U:=by
 refine⟨h.mem,fun j hj=>?_,by have:=h.len;omega⟩;rcases Nat.lt_or_ge j k with h1|h1
 ·exact h.rep j h1
 ·rw[show j=k by omega];exact⟨i,hi,he⟩
theorem UnS.new (h:UnS D l C k U) (hk:k<C.length):UnS D l C (k+1) (U++[gN C k]):=by
 refine⟨fun c hc=>?_,fun j hj=>?_,by have:=h.len;simp;omega⟩
 ·rcases List.mem_append.1 hc with hc|hc
  ·exact h.mem c hc
  ·rw[List.mem_singleton.1 hc];exact qbo hk
 ·rcases Nat.lt_or_ge j k with h1|h1
  ·obtain⟨i,h2,h3⟩:=h.rep j h1
   exact⟨i,by simp;omega,fun s hs=>by rw[qau h2];exact h3 s hs⟩
  ·rw[show j=k by omega]
   exact⟨U.length,by simp,fun s _=>by rw[qat]⟩
theorem UnS.done (h:UnS D l C C.length U) (hC:∀b,b<256→D.bc b∈C):∀b,b<256→∃j,j<U.length∧∀s∈l,D.nx s (D.bc b)=D.nx s (gN U j):=fun b hb=>by
 obtain⟨j,h1,h2⟩:=qcw (hC b hb);obtain⟨i,h3,h4⟩:=h.rep j h1;exact⟨i,h3,fun s hs=>by rw[←h2];exact h4 s hs⟩
end
end Go.Proofs.YtdgoilkgplnhfaaGreat
namespace Go.Proofs.YtdgoilkgplnhfaaGreat
open Go.RowKit Go.Lib
structure LbI (OU:List Nat) (n:Nat) (X AT:List Nat):Prop where
 xs:X=(List.range n).filter (fun m=>decide (m∈OU))
 lo:∀m,m<n→m∈OU→0<gN AT m∧X[gN AT m-1]? =some m
 hi:∀m,n≤m→m<AT.length→gN AT m=if m∈OU then 1 else 0
def FlI (OU:List Nat) (i:Nat) (AT:List Nat):Prop:=∀m,m<AT.length→gN AT m=if m∈OU.take i then 1 else 0
theorem qje {L:List Nat} {k:Nat} (h:k<L.length) (x:Nat):gN (L.set k x) k=x:=by simp[gN,List.getD_eq_getElem?_getD,h]
theorem qn6 {L:List Nat} {k j:Nat} (e:k≠j) (x:Nat):gN (L.set k x) j=gN L j:=by
 unfold gN;rw[List.getD_eq_getElem?_getD,List.getElem?_set_ne e,←List.getD_eq_getElem?_getD]
section
variable {OU X AT:List Nat} {n i:Nat}
theorem FlI.start (n:Nat):FlI OU 0 (List.replicate n 0):=fun m hm=>by
 rw[List.take_zero,if_neg (by simp)];rw[List.length_replicate] at hm;simp[gN,List.getD_eq_getElem?_getD,hm]
theorem FlI.step (h:FlI OU i AT) (hi:i<OU.length) (hl:gN OU i<AT.length):FlI OU (i+1) (AT.set (gN OU i) 1):=fun m hm=>by
 rw[List.length_set] at hm;rw[List.take_succ_eq_append_getElem hi,←qah hi];by_cases e:gN OU i=m
 ·rw[←e,if_pos (by simp),qje hl]
 ·have h1:=qn6 (L:=AT) e 1
  rw[h1,h m hm];by_cases hm2:m∈OU.take i
  ·rw[if_pos hm2,if_pos (by simp[hm2])]
  ·rw[if_neg hm2,if_neg (by
    rw[List.mem_append,List.mem_singleton];rintro(h2|h2)
    ·exact hm2 h2
    ·exact e h2.symm)]
theorem FlI.done (h:FlI OU OU.length AT):LbI OU 0 [] AT:=⟨rfl,fun m hm=>absurd hm (Nat.not_lt_zero _),fun m _ hm=>by
 have:=h m hm
 rwa [List.take_length] at this⟩
theorem LbI.flag (h:LbI OU n X AT) (hn:n<AT.length):gN AT n=1↔n∈OU:=by
 rw[h.hi n (Nat.le_refl _) hn];by_cases e:n∈OU<;>simp[e]
theorem LbI.step_in (h:LbI OU n X AT) (hn:n<AT.length) (hm:n∈OU):LbI OU (n+1) (X++[n]) (AT.set n (X.length+1)):=by
 have hne:∀m,m≠n→gN (AT.set n (X.length+1)) m=gN AT m:=fun m e=>qn6 (fun e2=>e e2.symm) _
 have hse:gN (AT.set n (X.length+1)) n=X.length+1:=qje hn _;refine⟨?_,fun m hmn hmo=>?_,fun m hnm hml=>?_⟩
 ·rw[List.range_succ,List.filter_append,←h.xs]
  simp[hm]
 ·by_cases e:m=n
  ·subst e
   rw[hse];exact⟨by omega,by simp⟩
  ·rw[hne m e]
   obtain⟨h1,h2⟩:=h.lo m (by omega) hmo;refine⟨h1,?_⟩;obtain⟨hlt,_⟩:=List.getElem?_eq_some_iff.1 h2;rw[List.getElem?_append_left hlt];exact h2
 ·rw[List.length_set] at hml
  rw[hne m (by omega)];exact h.hi m (by omega) hml
theorem LbI.step_out (h:LbI OU n X AT) (hm:n∉OU):LbI OU (n+1) X AT:=by
 refine⟨?_,fun m hmn hmo=>?_,fun m hnm hml=>h.hi m (by omega) hml⟩
 ·rw[List.range_succ,List.filter_append,←h.xs]
  simp[hm]
 ·have:m≠n:=fun e=>hm (e▸hmo)
  exact h.lo m (by omega) hmo
theorem LbI.len (h:LbI OU n X AT):X.length≤n:=by
 rw[h.xs];have:=List.length_filter_le (fun m=>decide (m∈OU)) (List.range n)
 rwa [List.length_range] at this
theorem LbI.mem (h:LbI OU n X AT) {m:Nat}:m∈X↔m<n∧m∈OU:=by
 rw[h.xs,List.mem_filter,List.mem_range,decide_eq_true_iff]
theorem LbI.sorted (h:LbI OU n X AT):X.Pairwise (· < ·):=by
 rw[h.xs];exact(List.pairwise_lt_range).filter _
end
end Go.Proofs.YtdgoilkgplnhfaaGreat

