/-
  Two automata gone through side by side: pairs of states as states, and what they tell of texts. Of no program: the conditions are named.
-/
import Derived.Test.YtdgoilkgplnhfaaGreatJ23
import Derived.Test.YtdgoilkgplnhfaaGreatJ15
import Derived.Test.YtdgoilkgplnhfaaGreatJ34
namespace Go.Proofs.YtdgoilkgplnhfaaGreat
open Go.RowKit Go.Lib Go.Maps
def joC (A B:DF) (fst:List Nat) (p:Nat×Nat) (c:Nat):Nat×Nat:=(A.step p.1 (gN fst c),B.step p.2 (gN fst c))
section
variable {A B:DF} {num fst:List Nat} {lit:Nat→Lit} {base:Nat} {v1 v2:Value} {w:World}
theorem qos (hd:qbd base lit 256 v1 v2 num fst w) (hlit:∀b c,b<256→c<256→lit b=lit c→A.bc b=A.bc c∧B.bc b=B.bc c) (p:Nat×Nat) {b:Nat} (hb:b<256):joC A B fst p (gN num b)=(A.step p.1 b,B.step p.2 b):=by
 have hq:=hd.nf.fstlt _ (hd.nf.numlt b hb);obtain⟨e1,e2⟩:=hlit _ _ hq hb (hd.nf.lk b hb);unfold joC DF.step;rw[e1,e2]
theorem qj6 (hd:qbd base lit 256 v1 v2 num fst w) (hlit:∀b c,b<256→c<256→lit b=lit c→A.bc b=A.bc c∧B.bc b=B.bc c):∀(t:List Nat) (p:Nat×Nat),Txt t→t.foldl (fun x b=>joC A B fst x ((qav num).getD b 0).toNat) p=(A.run p.1 t,B.run p.2 t)
 |[],_,_=>rfl
 |b::t,p,ht=>by
  rw[List.foldl_cons,(qb4 hd ht.tail.1).1,qos hd hlit p ht.tail.1,qj6 hd hlit t _ ht.tail.2];rfl
theorem qe9 (hd:qbd base lit 256 v1 v2 num fst w):∀(u:List Nat) (p:Nat×Nat),(∀c∈u,c<fst.length)→u.foldl (joC A B fst) p=(A.run p.1 (u.map (gN fst)),B.run p.2 (u.map (gN fst)))∧Txt (u.map (gN fst))
 |[],_,_=>⟨rfl,Txt.nil⟩
 |c::u,p,hu=>by
  have hc:=hu c List.mem_cons_self;obtain⟨h1,h2⟩:=qe9 hd u (joC A B fst p c) (fun x hx=>hu x (List.mem_cons_of_mem _ hx));refine⟨?_,Txt.cons (hd.nf.fstlt c hc) h2⟩;rw[List.foldl_cons,List.map_cons,h1];rfl
end
def qd4 (A B:DF):Prop:=∃T:List (List Nat),T.length=257∧(∀t∈T,Txt t)∧∀i,i<257→∀j,j<257→(A.run 0 (T.getD i []),B.run 0 (T.getD i []))=(A.run 0 (T.getD j []),B.run 0 (T.getD j []))→i=j
theorem qd4.no {A B:DF} (h:qd4 A B) (hA:A.Right) (hB:B.Right) (E:DF) (hE:E.Ok) (hl:∀t u,Txt t→Txt u→E.lab 0 t=E.lab 0 u→A.lab 0 t=A.lab 0 u∧B.lab 0 t=B.lab 0 u):257≤E.n:=by
 obtain⟨T,h1,h2,h3⟩:=h;have ht:∀i,i<257→Txt (T.getD i []):=fun i hi=>by
  have hi':i<T.length:=by omega
  have e:T.getD i []=T[i]:=by simp[List.getD_eq_getElem?_getD,hi']
  rw[e];exact h2 _ (List.getElem_mem hi')
 refine qax E.n 257 (fun i=>E.run 0 (T.getD i [])) (fun i hi=>hE.run hE.n0 (ht i hi)) (fun i hi j hj e=>h3 i hi j hj ?_);have key:∀u,Txt u→A.lab 0 (T.getD i []++u)=A.lab 0 (T.getD j []++u)∧B.lab 0 (T.getD i []++u)=B.lab 0 (T.getD j []++u):=fun u hu=>by
  refine hl _ _ ((ht i hi).app hu) ((ht j hj).app hu) ?_;unfold DF.lab;rw[DF.run_app,DF.run_app];have e:E.run 0 (T.getD i [])=E.run 0 (T.getD j []):=e;rw[e]
 have eA:A.run 0 (T.getD i [])=A.run 0 (T.getD j []):=hA.dist _ (hA.toOk.run hA.n0 (ht i hi)) _ (hA.toOk.run hA.n0 (ht j hj)) (fun u hu=>by
  have:=(key u hu).1;unfold DF.lab at this ⊢;rw[DF.run_app,DF.run_app] at this;exact this)
 have eB:B.run 0 (T.getD i [])=B.run 0 (T.getD j []):=hB.dist _ (hB.toOk.run hB.n0 (ht i hi)) _ (hB.toOk.run hB.n0 (ht j hj)) (fun u hu=>by
  have:=(key u hu).2;unfold DF.lab at this ⊢;rw[DF.run_app,DF.run_app] at this;exact this)
 rw[eA,eB]
section
variable {bsA bsB:By} {NA OA NB OB:List Nat} {num fst:List Nat} {lit:Nat→Lit} {base:Nat} {v1 v2:Value} {w:World} {St:List (Nat×Nat)} {NX OU:List Nat}
theorem qot (hd:qbd base lit 256 v1 v2 num fst w) (hlit:∀b c,b<256→c<256→lit b=lit c→(dfA bsA NA OA).bc b=(dfA bsA NA OA).bc c∧(dfA bsB NB OB).bc b=(dfA bsB NB OB).bc c) (hE:ExD (0,0) (joC (dfA bsA NA OA) (dfA bsB NB OB) fst) fst.length St NX) (ho:OU.length=St.length) {t:List Nat} (ht:Txt t):(dfA (qav num) NX OU).run 0 t<St.length∧gS (0,0) St ((dfA (qav num) NX OU).run 0 t)=((dfA bsA NA OA).run 0 t,(dfA bsB NB OB).run 0 t):=by
 have h0:=(hd.nf.zero (by decide)).2;obtain⟨h1,h2⟩:=hE.run (bs:=qav num) (OU:=OU) h0 ho (fun b hb=>by rw[(qb4 hd hb).1];exact(qb4 hd hb).2) hE.s0.1 ht;refine⟨h1,?_⟩;rw[h2,hE.s0.2,qj6 hd hlit t _ ht]
theorem qou (hd:qbd base lit 256 v1 v2 num fst w) (hE:ExD (0,0) (joC (dfA bsA NA OA) (dfA bsB NB OB) fst) fst.length St NX) (hS:St.length≤256) (ho:OU.length=St.length) (hlb:∀x∈OU,x≤65535):qbv (qav num) NX OU:=by
 have h0:=(hd.nf.zero (by decide)).2;exact hE.may h0 hd.few ho (by omega) (by unfold qav;rw[List.length_map,hd.len]) (fun b hb=>by rw[(qb4 hd hb).1];exact(qb4 hd hb).2) hlb
theorem qno (hd:qbd base lit 256 v1 v2 num fst w) (h:qeh ((0,0):Nat×Nat) (joC (dfA bsA NA OA) (dfA bsB NB OB) fst) fst.length):qd4 (dfA bsA NA OA) (dfA bsB NB OB):=by
 obtain⟨S,h1,h2,h3⟩:=h;have hx:∀a,∃t:List Nat,a<257→Txt t∧gS (0,0) S a=((dfA bsA NA OA).run 0 t,(dfA bsB NB OB).run 0 t):=fun a=>by
  by_cases ha:a<257
  ·obtain⟨u,k1,k2⟩:=h3 a (by omega)
   obtain⟨e1,e2⟩:=qe9 (A:=dfA bsA NA OA) (B:=dfA bsB NB OB) hd u (0,0) k1;exact⟨u.map (gN fst),fun _=>⟨e2,by rw[←k2,e1]⟩⟩
  ·exact⟨[],fun h=>absurd h ha⟩
 obtain⟨f,hf⟩:∃f:Nat→List Nat,∀a,a<257→Txt (f a)∧gS (0,0) S a=((dfA bsA NA OA).run 0 (f a),(dfA bsB NB OB).run 0 (f a)):=⟨fun a=>(hx a).choose,fun a=>(hx a).choose_spec⟩;refine⟨(List.range 257).map f,by simp,fun t ht=>?_,fun i hi j hj e=>?_⟩
 ·obtain⟨a,ha,rfl⟩:=List.mem_map.1 ht
  exact(hf a (List.mem_range.1 ha)).1
 ·have gi:((List.range 257).map f).getD i []=f i:=by simp[List.getD_eq_getElem?_getD,hi]
  have gj:((List.range 257).map f).getD j []=f j:=by simp[List.getD_eq_getElem?_getD,hj]
  rw[gi,gj,←(hf i hi).2,←(hf j hj).2] at e;exact h2 i (by omega) j (by omega) e
end
structure CoJ (k:Nat→Nat) (num fst CT:List Nat):Prop where
 nf:qbf k num.length (gN num) (gN fst) fst.length
 cl:CT.length=65536
 ct:∀c,c<65536→(gN CT c=0∧∀q,q<fst.length→k (gN fst q)≠c)∨∃q,q<fst.length∧gN CT c=q+1∧k (gN fst q)=c
theorem qd5 {L:List Nat} {k:Nat} (h:k<L.length) (x:Nat):gN (L.set k x) k=x:=by simp[gN,List.getD_eq_getElem?_getD,h]
theorem qnp {L:List Nat} {k j:Nat} (e:k≠j) (x:Nat):gN (L.set k x) j=gN L j:=by
 unfold gN;rw[List.getD_eq_getElem?_getD,List.getElem?_set_ne e,←List.getD_eq_getElem?_getD]
section
variable {k:Nat→Nat} {num fst CT:List Nat}
theorem CoJ.start:CoJ k [] [] (List.replicate 65536 0):=⟨qbf.nil,by rw[List.length_replicate],fun c hc=>.inl ⟨by
 unfold gN;rw[List.getD_eq_getElem?_getD,List.getElem?_replicate,if_pos hc];rfl,fun q hq=>absurd hq (Nat.not_lt_zero _)⟩⟩
theorem CoJ.hit (h:CoJ k num fst CT) (hk:k num.length<65536) (h0:gN CT (k num.length)≠0):gN CT (k num.length)-1<fst.length∧CoJ k (num++[gN CT (k num.length)-1]) fst CT:=by
 rcases h.ct _ hk with⟨h1,_⟩|⟨q,h1,h2,h3⟩
 ·exact absurd h1 h0
 ·rw[h2,Nat.add_sub_cancel]
  exact⟨h1,by rw[List.length_append];exact h.nf.hit h1 h3,h.cl,h.ct⟩
theorem CoJ.miss (h:CoJ k num fst CT) (hk:k num.length<65536) (h0:gN CT (k num.length)=0):CoJ k (num++[fst.length]) (fst++[num.length]) (CT.set (k num.length) (fst.length+1)):=by
 have hne:∀q,q<fst.length→k (gN fst q)≠k num.length:=by
  rcases h.ct _ hk with⟨_,h1⟩|⟨q,_,h2,_⟩
  ·exact h1
  ·omega
 refine⟨by rw[List.length_append,List.length_append];exact h.nf.miss hne,by rw[List.length_set];exact h.cl,fun c hc=>?_⟩;by_cases e:k num.length=c
 ·subst e
  exact .inr ⟨fst.length,by simp,qd5 (by rw[h.cl];exact hk) _,by rw[qat]⟩
 ·rw[qnp e]
  rcases h.ct c hc with⟨h1,h2⟩|⟨q,h1,h2,h3⟩
  ·refine .inl ⟨h1,fun q hq=>?_⟩
   by_cases hq2:q<fst.length
   ·rw[qau hq2];exact h2 q hq2
   ·have:q=fst.length:=by simp at hq;omega
    rw[this,qat];exact e
  ·exact .inr ⟨q,by simp;omega,h2,by rw[qau h1];exact h3⟩
theorem CoJ.few (h:CoJ k num fst CT):fst.length≤num.length:=by
 rcases Nat.lt_or_ge num.length fst.length with hlt|hge
 ·have h1:=fun(q:Nat) (hq:q<fst.length)=>h.nf.fstlt q hq
  have:=qax num.length fst.length (gN fst) h1 (fun i hi j hj e=>by
   have h2:=h.nf.numfst i hi;have h3:=h.nf.numfst j hj;rw[e,h3] at h2;exact h2.symm)
  omega
 ·exact hge
end
def cdP (p:Nat×Nat):Nat:=p.1*256+p.2
theorem qfa {p q:Nat×Nat} (h1:p.2<256) (h2:q.2<256) (e:cdP p=cdP q):p=q:=by
 unfold cdP at e;have e2:p.2=q.2:=by omega
 have e1:p.1=q.1:=by omega
 exact Prod.ext e1 e2
structure PaJ (St:List (Nat×Nat)) (NT:List Nat):Prop where
 nl:NT.length=65536
 lt:∀p∈St,p.1<256∧p.2<256
 nt:∀c,c<65536→(gN NT c=0∧∀a,a<St.length→cdP (gS (0,0) St a)≠c)∨∃a,a<St.length∧gN NT c=a+1∧cdP (gS (0,0) St a)=c
section
variable {St:List (Nat×Nat)} {NT:List Nat} {p:Nat×Nat}
theorem PaJ.start:PaJ [(0,0)] ((List.replicate 65536 0).set 0 1):=by
 have h0:∀c,c<65536→gN (List.replicate 65536 0) c=0:=fun c hc=>by
  unfold gN;rw[List.getD_eq_getElem?_getD,List.getElem?_replicate,if_pos hc];rfl
 refine⟨by rw[List.length_set,List.length_replicate],fun p hp=>by rw[List.mem_singleton.1 hp];exact⟨by decide,by decide⟩,fun c hc=>?_⟩;by_cases e:0=c
 ·subst e
  exact .inr ⟨0,by simp,qd5 (by rw[List.length_replicate];exact hc) _,rfl⟩
 ·refine .inl ⟨by rw[qnp e];exact h0 c hc,fun a ha=>?_⟩
  have:a=0:=by simp at ha;omega
  subst this;exact e
theorem PaJ.get (h:PaJ St NT) {a:Nat} (ha:a<St.length):(gS (0,0) St a).1<256∧(gS (0,0) St a).2<256:=by
 rw[qb2 ha];exact h.lt _ (List.getElem_mem ha)
theorem PaJ.hit (h:PaJ St NT) (h1:p.1<256) (h2:p.2<256) (h0:gN NT (cdP p)≠0):gN NT (cdP p)-1<St.length∧gS (0,0) St (gN NT (cdP p)-1)=p:=by
 have hc:cdP p<65536:=by unfold cdP;omega
 rcases h.nt _ hc with⟨h3,_⟩|⟨a,h3,h4,h5⟩
 ·exact absurd h3 h0
 ·rw[h4,Nat.add_sub_cancel]
  exact⟨h3,qfa (h.get h3).2 h2 h5⟩
theorem PaJ.miss (h:PaJ St NT) (h1:p.1<256) (h2:p.2<256) (h0:gN NT (cdP p)=0):(∀a,a<St.length→gS (0,0) St a≠p)∧PaJ (St++[p]) (NT.set (cdP p) (St.length+1)):=by
 have hc:cdP p<65536:=by unfold cdP;omega
 have hne:∀a,a<St.length→cdP (gS (0,0) St a)≠cdP p:=by
  rcases h.nt _ hc with⟨_,h3⟩|⟨a,_,h4,_⟩
  ·exact h3
  ·omega
 refine⟨fun a ha e=>hne a ha (by rw[e]),by rw[List.length_set];exact h.nl,fun q hq=>?_,fun c hc2=>?_⟩
 ·rcases List.mem_append.1 hq with hq|hq
  ·exact h.lt q hq
  ·rw[List.mem_singleton.1 hq];exact⟨h1,h2⟩
 ·by_cases e:cdP p=c
  ·subst e
   exact .inr ⟨St.length,by simp,qd5 (by rw[h.nl];exact hc) _,by rw[qdf]⟩
  ·rw[qnp e]
   rcases h.nt c hc2 with⟨h3,h4⟩|⟨a,h3,h4,h5⟩
   ·refine .inl ⟨h3,fun a ha=>?_⟩
    by_cases ha2:a<St.length
    ·rw[qev ha2];exact h4 a ha2
    ·have:a=St.length:=by simp at ha;omega
     rw[this,qdf];exact e
   ·exact .inr ⟨a,by simp;omega,h4,by rw[qev h3];exact h5⟩
theorem PaJ.few (h:PaJ St NT) (hn:∀a,a<St.length→∀b,b<St.length→gS (0,0) St a=gS (0,0) St b→a=b):St.length≤65536:=
 qax 65536 St.length (fun a=>cdP (gS (0,0) St a)) (fun a ha=>by have:=h.get ha;unfold cdP;omega) (fun a ha b hb e=>hn a ha b hb (qfa (h.get ha).2 (h.get hb).2 e))
end
theorem qhd {P:List Spn} (h:P.Pairwise PLt) {i j:Nat} (hi:i<P.length) (hj:j<P.length) (e:gQ P i=gQ P j):i=j:=by
 rw[qch hi,qch hj] at e;have hp:=List.pairwise_iff_getElem.1 h;have irr:∀s:Spn,¬PLt s s:=fun s hs=>by unfold PLt at hs;omega
 rcases Nat.lt_trichotomy i j with h1|h1|h1
 ·have:=hp i j hi hj h1
  rw[e] at this;exact absurd this (irr _)
 ·exact h1
 ·have:=hp j i hj hi h1
  rw[e] at this;exact absurd this (irr _)
theorem RoS.le {L P:List Spn} (h:RoS L P):P.length≤L.length:=by
 have hx:∀i,∃j,i<P.length→j<L.length∧gQ L j=gQ P i:=fun i=>by
  by_cases hi:i<P.length
  ·have:=(h.mem (gQ P i)).1 (by rw[qch hi];exact List.getElem_mem hi)
   obtain⟨j,hj,e⟩:=List.getElem_of_mem this;exact⟨j,fun _=>⟨hj,by rw[qch hj,e]⟩⟩
  ·exact⟨0,fun h=>absurd h hi⟩
 obtain⟨f,hf⟩:∃f:Nat→Nat,∀i,i<P.length→f i<L.length∧gQ L (f i)=gQ P i:=⟨fun i=>(hx i).choose,fun i=>(hx i).choose_spec⟩;exact qax L.length P.length f (fun i hi=>(hf i hi).1) (fun i hi j hj e=>qhd h.up hi hj (by rw[←(hf i hi).2,←(hf j hj).2,e]))
theorem qd6 {OA OB:List Nat} {St:List (Nat×Nat)} {z:Nat×Nat} {i:Nat} (h:i<St.length):gQ (lpL OA OB St) i=(((gN OA (gS z St i).1:Nat):Int),((gN OB (gS z St i).2:Nat):Int)):=by
 rw[qch (by rw[qb3];exact h),qb2 h];simp[lpL]
def Plc (P L:List Spn) (O:List Nat) (i:Nat):Prop:=O.length=i∧∀j,j<i→gN O j<P.length∧gQ P (gN O j)=gQ L j
theorem Plc.next {P L:List Spn} {O:List Nat} {i x:Nat} (h:Plc P L O i) (h1:x<P.length) (h2:gQ P x=gQ L i):Plc P L (O++[x]) (i+1):=by
 have hl:=h.1;refine⟨by simp;exact hl,fun j hj=>?_⟩;by_cases e:j=i
 ·have:gN (O++[x]) j=x:=by rw[qah (by simp;omega)];subst e;simp[←hl]
  rw[this,e];exact⟨h1,h2⟩
 ·have:gN (O++[x]) j=gN O j:=by rw[qah (by simp;omega),qah (by omega)];rw[List.getElem_append_left]
  rw[this];exact h.2 j (by omega)
theorem qnq {O:List Nat} {i n x:Nat} (h:O.length=i) (hi:i<n):(O++List.replicate (n-i) 0).set i x=(O++[x])++List.replicate (n-(i+1)) 0:=by
 rw[List.set_append_right _ _ (by omega),List.append_assoc]
 congr 1
 obtain⟨q,hq⟩:∃q,n-i=q+1:=⟨n-i-1,by omega⟩;rw[hq,show n-(i+1)=q by omega,show i-O.length=0 by omega];rfl
section
variable {bsA bsB:By} {NA OA NB OB:List Nat} {num fst:List Nat} {lit:Nat→Lit} {base:Nat} {v1 v2:Value} {w:World} {St:List (Nat×Nat)} {NX OU:List Nat} {P:List Spn}
theorem qlu (hd:qbd base lit 256 v1 v2 num fst w) (hE:ExD (0,0) (joC (dfA bsA NA OA) (dfA bsB NB OB) fst) fst.length St NX) (hr:RoS (lpL OA OB St) P):∀x∈P,∃t,Txt t∧x=((dfA bsA NA OA).lab 0 t,(dfA bsB NB OB).lab 0 t):=fun x hx=>by
 have:=(hr.mem x).1 hx;obtain⟨a,ha,e⟩:=List.getElem_of_mem this;rw[qb3] at ha;rw[←qch (by rw[qb3];exact ha),qd6 (z:=(0,0)) ha] at e;obtain⟨u,h1,h2⟩:=hE.rch a ha;obtain⟨e1,e2⟩:=qe9 (A:=dfA bsA NA OA) (B:=dfA bsB NB OB) hd u (0,0) h1;rw[h2] at e1;refine⟨u.map (gN fst),e2,?_⟩;rw[←e,e1];rfl
theorem qov (hd:qbd base lit 256 v1 v2 num fst w) (hlit:∀b c,b<256→c<256→lit b=lit c→(dfA bsA NA OA).bc b=(dfA bsA NA OA).bc c∧(dfA bsB NB OB).bc b=(dfA bsB NB OB).bc c) (hE:ExD (0,0) (joC (dfA bsA NA OA) (dfA bsB NB OB) fst) fst.length St NX) (ho:Plc P (lpL OA OB St) OU St.length) {t:List Nat} (ht:Txt t):∃i:Nat,(dfA (qav num) NX OU).lab 0 t=(i:Int)∧i<P.length∧gQ P i=((dfA bsA NA OA).lab 0 t,(dfA bsB NB OB).lab 0 t):=by
 obtain⟨h1,h2⟩:=qot hd hlit hE ho.1 ht;obtain⟨h3,h4⟩:=ho.2 _ h1;refine⟨_,rfl,h3,?_⟩;rw[h4,qd6 (z:=(0,0)) h1,h2];rfl
theorem Plc.lb (ho:Plc P (lpL OA OB St) OU St.length) (hP:P.length≤65536):∀x∈OU,x≤65535:=fun x hx=>by
 obtain⟨i,hi,rfl⟩:=List.getElem_of_mem hx;have:=(ho.2 i (by rw[←ho.1];exact hi)).1;rw[qah hi] at this;omega
end
end Go.Proofs.YtdgoilkgplnhfaaGreat

