/-
  Automata over bytes: those in their one form are told by their labels alone. Of no program: no condition.
-/
import Derived.Control
import Derived.Maps.OwnSet
import Derived.Maps.Views
import Derived.Maps.Keyed
import Derived.Test.YtdgoilkgplnhfaaGreatJ02
namespace Go.Proofs.YtdgoilkgplnhfaaGreat
structure DF where
 n:Nat
 W:Nat
 bc:Nat→Nat
 nx:Nat→Nat→Nat
 ou:Nat→Int
def Txt (t:List Nat):Prop:=∀b∈t,b<256
theorem Txt.nil:Txt []:=fun b hb=>(by cases hb)
theorem Txt.snoc {t:List Nat} (h:Txt t) {b:Nat} (hb:b<256):Txt (t++[b]):=fun x hx=>by
 rcases List.mem_append.1 hx with hx|hx
 ·exact h x hx
 ·rw[List.mem_singleton.1 hx];exact hb
theorem Txt.app {t u:List Nat} (h:Txt t) (k:Txt u):Txt (t++u):=fun x hx=>by
 rcases List.mem_append.1 hx with hx|hx
 ·exact h x hx
 ·exact k x hx
theorem Txt.tail {b:Nat} {t:List Nat} (h:Txt (b::t)):b<256∧Txt t:=⟨h b List.mem_cons_self,fun x hx=>h x (List.mem_cons_of_mem _ hx)⟩
theorem Txt.cons {b:Nat} {t:List Nat} (hb:b<256) (h:Txt t):Txt (b::t):=fun x hx=>by
 rcases List.mem_cons.1 hx with rfl|hx
 ·exact hb
 ·exact h x hx
def DF.step (D:DF) (s b:Nat):Nat:=D.nx s (D.bc b)
def DF.run (D:DF) (s:Nat) (t:List Nat):Nat:=t.foldl D.step s
def DF.lab (D:DF) (s:Nat) (t:List Nat):Int:=D.ou (D.run s t)
theorem DF.run_cons (D:DF) (s b:Nat) (t:List Nat):D.run s (b::t)=D.run (D.step s b) t:=rfl
theorem DF.run_snoc (D:DF) (s:Nat) (t:List Nat) (b:Nat):D.run s (t++[b])=D.step (D.run s t) b:=by unfold DF.run;rw[List.foldl_append];rfl
theorem DF.run_app (D:DF) (s:Nat) (t u:List Nat):D.run s (t++u)=D.run (D.run s t) u:=by unfold DF.run;rw[List.foldl_append]
structure DF.Ok (D:DF):Prop where
 n0:0<D.n
 W0:0<D.W
 bc:∀b,b<256→D.bc b<D.W
 nx:∀s,s<D.n→∀c,c<D.W→D.nx s c<D.n
theorem DF.Ok.step {D:DF} (h:D.Ok) {s b:Nat} (hs:s<D.n) (hb:b<256):D.step s b<D.n:=h.nx s hs _ (h.bc b hb)
theorem DF.Ok.run {D:DF} (h:D.Ok):∀ {t:List Nat} {s:Nat},s<D.n→Txt t→D.run s t<D.n
 |[],_,hs,_=>hs
 |b::t,s,hs,ht=>by rw[DF.run_cons];exact h.run (h.step hs ht.tail.1) ht.tail.2
def DF.Eqv (D:DF) (s t:Nat):Prop:=∀u,Txt u→D.lab s u=D.lab t u
theorem DF.Eqv.refl (D:DF) (s:Nat):D.Eqv s s:=fun _ _=>rfl
theorem DF.Eqv.step {D:DF} {s t:Nat} (h:D.Eqv s t) {b:Nat} (hb:b<256):D.Eqv (D.step s b) (D.step t b):=fun u hu=>h (b::u) (Txt.cons hb hu)
theorem DF.Eqv.ou {D:DF} {s t:Nat} (h:D.Eqv s t):D.ou s=D.ou t:=h [] Txt.nil
def qgi (s' c' s c:Nat):Prop:=s'<s∨(s'=s∧c'<c)
structure DF.Right (D:DF):Prop extends D.Ok where
 reach:∀s,s<D.n→∃t,Txt t∧D.run 0 t=s
 dist:∀s,s<D.n→∀t,t<D.n→D.Eqv s t→s=t
 cold:∀c,c<D.W→∀d,d<D.W→(∀s,s<D.n→D.nx s c=D.nx s d)→c=d
 colf:∀b,b<256→∀v,v<D.bc b→∃b',b'<b∧D.bc b'=v
 cols:∀c,c<D.W→∃b,b<256∧D.bc b=c
 stf:∀s,s<D.n→∀c,c<D.W→∀v,0<v→v<D.nx s c→∃s' c',c'<D.W∧qgi s' c' s c∧D.nx s' c'=v
theorem qhh {f g:Nat→Nat} {N:Nat} (hf:∀b,b<N→∀v,v<f b→∃b',b'<b∧f b'=v) (hk:∀a b,a<N→b<N→g a=g b→f a=f b):∀b,b<N→(∀b',b'<b→f b'=g b')→f b≤g b:=fun b hb ih=>by
 apply Nat.le_of_not_lt;intro h;obtain⟨b',h1,h2⟩:=hf b hb (g b) h;have h3:=ih b' h1;have h4:=hk b' b (by omega) hb (by omega);omega
theorem qit {f g:Nat→Nat} {N:Nat} (hf:∀b,b<N→∀v,v<f b→∃b',b'<b∧f b'=v) (hg:∀b,b<N→∀v,v<g b→∃b',b'<b∧g b'=v) (hk:∀a b,a<N→b<N→(f a=f b↔g a=g b)):∀b,b<N→f b=g b:=by
 intro b
 induction b using Nat.strongRecOn with
 |_ b ih=>
  intro hb;have h1:=qhh hf (fun a b ha hb=>(hk a b ha hb).2) b hb (fun b' hb'=>ih b' hb' (by omega));have h2:=qhh hg (fun a b ha hb=>(hk a b ha hb).1) b hb (fun b' hb'=>(ih b' hb' (by omega)).symm);omega
theorem qh0 {p:Nat→Nat→Prop} {N M:Nat} (h:∃s c,s<N∧c<M∧p s c):∃s c,s<N∧c<M∧p s c∧∀s' c',c'<M→qgi s' c' s c→¬p s' c':=by
 classical
 have h1:∃s,s<N∧∃c,c<M∧p s c:=by obtain⟨s,c,h1,h2,h3⟩:=h;exact⟨s,h1,c,h2,h3⟩
 have key:∀(q:Nat→Prop),(∃s,q s)→∃s,q s∧∀t,t<s→¬q t:=fun q ⟨s,hs⟩=>by
  induction s using Nat.strongRecOn with
  |_ s ih=>
   by_cases hx:∃t,t<s∧q t
   ·obtain⟨t,h1,h2⟩:=hx
    exact ih t h1 h2
   ·exact⟨s,hs,fun t ht hq=>hx ⟨t,ht,hq⟩⟩
 obtain⟨s,⟨hs1,hs2⟩,hs3⟩:=key (fun s=>s<N∧∃c,c<M∧p s c) h1;obtain⟨c,⟨hc1,hc2⟩,hc3⟩:=key (fun c=>c<M∧p s c) hs2;refine⟨s,c,hs1,hc1,hc2,fun s' c' hc' ha hp=>?_⟩;rcases ha with ha|⟨rfl,ha⟩
 ·exact hs3 s' ha ⟨by omega,c',hc',hp⟩
 ·exact hc3 c' ha ⟨hc',hp⟩
theorem DF.Right.met {D:DF} (h:D.Right) {s:Nat} (hs:s<D.n) (h0:0<s):∃p c,p<s∧c<D.W∧D.nx p c=s∧∀p' c',c'<D.W→qgi p' c' p c→D.nx p' c'<s:=by
 have hex:∃p c,p<s∧c<D.W∧s≤D.nx p c:=by
  apply Classical.byContradiction;intro hno;obtain⟨t,ht,hr⟩:=h.reach s hs;have key:∀t,Txt t→∀p,p<s→D.run p t<s:=by
   intro t
   induction t with
   |nil=>intro _ p hp;exact hp
   |cons b t ih=>
    intro ht p hp;rw[DF.run_cons];refine ih ht.tail.2 _ ?_;apply Nat.lt_of_not_le;intro hle;exact hno ⟨p,D.bc b,hp,h.bc b ht.tail.1,hle⟩
  have:=key t ht 0 h0;omega
 obtain⟨p,c,h1,h2,h3,h4⟩:=qh0 hex;refine⟨p,c,h1,h2,?_,fun p' c' hc' ha=>Nat.lt_of_not_le (h4 p' c' hc' ha)⟩;apply Classical.byContradiction;intro hne;obtain⟨s',c',k1,k2,k3⟩:=h.stf p (by omega) c h2 s h0 (by omega);exact h4 s' c' k1 k2 (by omega)
def Mt (D E:DF) (s s':Nat):Prop:=∃t,Txt t∧D.run 0 t=s∧E.run 0 t=s'
section
variable {D E:DF}
theorem Mt.zero:Mt D E 0 0:=⟨[],Txt.nil,rfl,rfl⟩
theorem Mt.symm {s s':Nat} (h:Mt D E s s'):Mt E D s' s:=by obtain⟨t,h1,h2,h3⟩:=h;exact⟨t,h1,h3,h2⟩
theorem Mt.step {s s' b:Nat} (h:Mt D E s s') (hb:b<256):Mt D E (D.step s b) (E.step s' b):=by
 obtain⟨t,h1,rfl,rfl⟩:=h;exact⟨t++[b],h1.snoc hb,D.run_snoc 0 t b,E.run_snoc 0 t b⟩
theorem Mt.lt {s s':Nat} (hD:D.Ok) (h:Mt D E s s'):s<D.n:=by obtain⟨t,h1,rfl,_⟩:=h;exact hD.run hD.n0 h1
theorem Mt.fn (hE:E.Right) (hl:∀t,Txt t→D.lab 0 t=E.lab 0 t) {s s' s'':Nat} (h:Mt D E s s') (k:Mt D E s s''):s'=s'':=by
 have l1:=Mt.lt hE.toOk h.symm;have l2:=Mt.lt hE.toOk k.symm;obtain⟨t,h1,h2,h3⟩:=h;obtain⟨u,k1,k2,k3⟩:=k;refine hE.dist s' l1 s'' l2 (fun x hx=>?_);have e1:=hl (t++x) (h1.app hx);have e2:=hl (u++x) (k1.app hx);unfold DF.lab at e1 e2 ⊢;rw[DF.run_app,DF.run_app,h2,h3] at e1;rw[DF.run_app,DF.run_app,k2,k3] at e2;rw[←e1,←e2]
theorem Mt.ou (hl:∀t,Txt t→D.lab 0 t=E.lab 0 t) {s s':Nat} (h:Mt D E s s'):D.ou s=E.ou s':=by
 obtain⟨t,h1,rfl,rfl⟩:=h;exact hl t h1
theorem qiu (hE:E.Right) (hl:∀t,Txt t→D.lab 0 t=E.lab 0 t) {a b:Nat} (ha:a<256) (hb:b<256) (h:D.bc a=D.bc b):E.bc a=E.bc b:=by
 refine hE.cold _ (hE.bc a ha) _ (hE.bc b hb) (fun s' hs'=>?_);obtain⟨t,h1,h2⟩:=hE.reach s' hs';have m:Mt D E (D.run 0 t) s':=⟨t,h1,rfl,h2⟩;have m1:=m.step ha;have m2:=m.step hb;unfold DF.step at m1 m2;rw[h] at m1;exact Mt.fn hE hl m1 m2
theorem W_le (hE:E.Right) (hb:∀b,b<256→D.bc b=E.bc b) (hD:D.Ok):E.W≤D.W:=by
 apply Nat.le_of_not_lt;intro h;obtain⟨b,h1,h2⟩:=hE.cols D.W h;have:=hD.bc b h1;rw[hb b h1] at this;omega
theorem qfg (hD:D.Right) (hE:E.Right) (hl:∀t,Txt t→D.lab 0 t=E.lab 0 t):D.n=E.n∧D.W=E.W∧(∀b,b<256→D.bc b=E.bc b)∧(∀s,s<D.n→∀c,c<D.W→D.nx s c=E.nx s c)∧∀s,s<D.n→D.ou s=E.ou s:=by
 have hl':∀t,Txt t→E.lab 0 t=D.lab 0 t:=fun t ht=>(hl t ht).symm
 have hbc:∀b,b<256→D.bc b=E.bc b:=qit hD.colf hE.colf (fun a b ha hb=>⟨qiu hE hl ha hb,qiu hD hl' ha hb⟩);have hW:D.W=E.W:=Nat.le_antisymm (W_le hD (fun b hb=>(hbc b hb).symm) hE.toOk) (W_le hE hbc hD.toOk);have hst:∀s,s<D.n→Mt D E s s:=by
  intro s
  induction s using Nat.strongRecOn with
  |_ s ih=>
   intro hs;by_cases h0:s=0
   ·subst h0;exact Mt.zero
   obtain⟨p,c,hp,hc,h1,h2⟩:=hD.met hs (by omega);have mv:∀p',p'<s→∀c',c'<D.W→Mt D E (D.nx p' c') (E.nx p' c'):=fun p' hp' c' hc'=>by
    obtain⟨b,hb,rfl⟩:=hD.cols c' hc';have m:=(ih p' hp' (by omega)).step hb;unfold DF.step at m;rw[←hbc b hb] at m;exact m
   have m:=mv p hp c hc;rw[h1] at m;have heq:∀p' c',c'<D.W→qgi p' c' p c→E.nx p' c'<s:=fun p' c' hc' ha=>by
    have hp':p'<s:=by rcases ha with ha|⟨rfl,_⟩<;>omega
    have hv:=h2 p' c' hc' ha;have m1:=mv p' hp' c' hc';have m2:=ih _ hv (by omega);have:=Mt.fn hE hl m1 m2;omega
   have hpE:p<E.n:=Mt.lt hE.toOk (ih p hp (by omega)).symm;have hne:¬E.nx p c<s:=fun hlt=>by
    have m2:=ih _ hlt (by omega);have:=Mt.fn hD hl' m.symm m2.symm;omega
   have hng:¬s<E.nx p c:=fun hgt=>by
    obtain⟨s',c',k1,k2,k3⟩:=hE.stf p hpE c (by omega) s (by omega) hgt;have:=heq s' c' (by omega) k2;omega
   have he:E.nx p c=s:=by omega
   rw[he] at m;exact m
 have hn:D.n=E.n:=by
  refine Nat.le_antisymm (Nat.le_of_not_lt fun h=>?_) (Nat.le_of_not_lt fun h=>?_)
  ·have:=Mt.lt hE.toOk (hst E.n h).symm
   omega
  ·obtain⟨t,h1,h2⟩:=hE.reach D.n h
   have m:Mt D E (D.run 0 t) D.n:=⟨t,h1,rfl,h2⟩;have hlt:=m.lt hD.toOk;have:=Mt.fn hE hl m (hst _ hlt);omega
 refine⟨hn,hW,hbc,fun s hs c hc=>?_,fun s hs=>(hst s hs).ou hl⟩;obtain⟨b,hb,rfl⟩:=hD.cols c hc;have m:=(hst s hs).step hb;unfold DF.step at m;rw[←hbc b hb] at m;exact Mt.fn hE hl (hst _ (hD.nx s hs _ (hD.bc b hb))) m
end
structure qbf {α:Type} (look:Nat→α) (N:Nat) (num fst:Nat→Nat) (M:Nat):Prop where
 numlt:∀i,i<N→num i<M
 lk:∀i,i<N→look (fst (num i))=look i
 fstlt:∀k,k<M→fst k<N
 numfst:∀k,k<M→num (fst k)=k
 first:∀k,k<M→∀i,i<fst k→look i≠look (fst k)
 inc:∀k l,k<l→l<M→fst k<fst l
section
variable {α:Type} {look:Nat→α} {N M:Nat} {num fst:Nat→Nat}
theorem qbf.le (h:qbf look N num fst M) {i:Nat} (hi:i<N):fst (num i)≤i:=by
 apply Nat.le_of_not_lt;intro hlt;exact h.first _ (h.numlt i hi) i hlt (h.lk i hi).symm
theorem qbf.same (h:qbf look N num fst M) {i j:Nat} (hi:i<N) (hj:j<N):num i=num j↔look i=look j:=by
 refine⟨fun e=>by rw[←h.lk i hi,←h.lk j hj,e],fun e=>?_⟩;have e2:look (fst (num i))=look (fst (num j)):=by rw[h.lk i hi,h.lk j hj,e]
 have e3:fst (num i)=fst (num j):=by
  rcases Nat.lt_trichotomy (fst (num i)) (fst (num j)) with h1|h1|h1
  ·exact absurd e2 (h.first _ (h.numlt j hj) _ h1)
  ·exact h1
  ·exact absurd e2.symm (h.first _ (h.numlt i hi) _ h1)
 rw[←h.numfst _ (h.numlt i hi),←h.numfst _ (h.numlt j hj),e3]
theorem qbf.occ (h:qbf look N num fst M) {i v:Nat} (hi:i<N) (hv:v<num i):∃i',i'<i∧num i'=v:=by
 have h1:=h.inc v (num i) hv (h.numlt i hi);have h2:=h.le hi;exact⟨fst v,by omega,h.numfst v (by have:=h.numlt i hi;omega)⟩
theorem qbf.lt_of (h:qbf look N num fst M) {i k:Nat} (hi:i<N) (hlt:i<fst k):num i<k:=by
 apply Nat.lt_of_not_le;intro hle;have h2:=h.le hi;rcases Nat.lt_or_ge k (num i) with h3|h3
 ·have:=h.inc k (num i) h3 (h.numlt i hi)
  omega
 ·have:k=num i:=by omega
  rw[this] at hlt;omega
theorem qbf.zero (h:qbf look N num fst M) (h0:0<N):num 0=0∧0<M:=by
 have h1:=h.numlt 0 h0;refine⟨?_,by omega⟩;apply Classical.byContradiction;intro hne;obtain⟨i',h2,_⟩:=h.occ h0 (v:=0) (by omega);omega
end
def DF.merge (D:DF) (num fst:Nat→Nat) (M:Nat):DF:=⟨M,D.W,D.bc,fun k c=>num (D.nx (fst k) c),fun k=>D.ou (fst k)⟩
def DF.narrow (D:DF) (num fst:Nat→Nat) (M:Nat):DF:=⟨D.n,M,fun b=>num (D.bc b),fun s c=>D.nx s (fst c),D.ou⟩
structure DF.Pre (D:DF):Prop extends D.Ok where
 reach:∀s,s<D.n→∃t,Txt t∧D.run 0 t=s
 colf:∀b,b<256→∀v,v<D.bc b→∃b',b'<b∧D.bc b'=v
 cols:∀c,c<D.W→∃b,b<256∧D.bc b=c
 stf:∀s,s<D.n→∀c,c<D.W→∀v,0<v→v<D.nx s c→∃s' c',s'<D.n∧c'<D.W∧qgi s' c' s c∧D.nx s' c'=v
section
variable {D:DF} {num fst:Nat→Nat} {M:Nat} {part:Nat→Nat}
theorem qeg (hD:D.Ok) (h:qbf part D.n num fst M) (hp:∀s,s<D.n→∀t,t<D.n→(part s=part t↔D.Eqv s t)) {s b:Nat} (hs:s<D.n) (hb:b<256):(D.merge num fst M).step (num s) b=num (D.step s b):=by
 have h1:=h.fstlt _ (h.numlt s hs);have e:D.Eqv (fst (num s)) s:=(hp _ h1 _ hs).1 (h.lk s hs);exact(h.same (hD.step h1 hb) (hD.step hs hb)).2 ((hp _ (hD.step h1 hb) _ (hD.step hs hb)).2 (e.step hb))
theorem qdx (hD:D.Ok) (h:qbf part D.n num fst M) (hp:∀s,s<D.n→∀t,t<D.n→(part s=part t↔D.Eqv s t)):∀ {t:List Nat} {s:Nat},s<D.n→Txt t→(D.merge num fst M).run (num s) t=num (D.run s t)
 |[],_,_,_=>rfl
 |b::t,s,hs,ht=>by rw[DF.run_cons,DF.run_cons,qeg hD h hp hs ht.tail.1,qdx hD h hp (hD.step hs ht.tail.1) ht.tail.2]
theorem qdy (hD:D.Ok) (h:qbf part D.n num fst M) (hp:∀s,s<D.n→∀t,t<D.n→(part s=part t↔D.Eqv s t)) {t:List Nat} {s:Nat} (hs:s<D.n) (ht:Txt t):(D.merge num fst M).lab (num s) t=D.lab s t:=by
 unfold DF.lab;rw[qdx hD h hp hs ht];have hr:=hD.run hs ht;exact((hp _ (h.fstlt _ (h.numlt _ hr)) _ hr).1 (h.lk _ hr)).ou
theorem qiv (hD:D.Pre) (h:qbf part D.n num fst M) (hp:∀s,s<D.n→∀t,t<D.n→(part s=part t↔D.Eqv s t)):(D.merge num fst M).Pre∧∀s,s<M→∀t,t<M→(D.merge num fst M).Eqv s t→s=t:=by
 have ok:=hD.toOk;obtain⟨z0,z1⟩:=h.zero ok.n0;refine⟨⟨⟨z1,ok.W0,ok.bc,fun k hk c hc=>h.numlt _ (ok.nx _ (h.fstlt k hk) c hc)⟩,fun k hk=>?_,hD.colf,hD.cols,fun k hk c hc v h0 hv=>?_⟩,fun k hk l hl he=>?_⟩
 ·obtain⟨t,h1,h2⟩:=hD.reach (fst k) (h.fstlt k hk)
  refine⟨t,h1,?_⟩;have:=qdx ok h hp ok.n0 h1;rw[z0,h2,h.numfst k hk] at this;exact this
 ·have hv':v<num (D.nx (fst k) c):=hv
  have hs':=ok.nx _ (h.fstlt k hk) c hc;have hvM:v<M:=by have:=h.numlt _ hs';omega
  have h1:fst v<D.nx (fst k) c:=by have:=h.inc v _ hv' (h.numlt _ hs');have:=h.le hs';omega
  have h2:0<fst v:=by have:=h.inc 0 v h0 hvM;omega
  obtain⟨p,c1,k0,k1,k2,k3⟩:=hD.stf (fst k) (h.fstlt k hk) c hc (fst v) h2 h1;have e:D.Eqv (fst (num p)) p:=(hp _ (h.fstlt _ (h.numlt p k0)) _ k0).1 (h.lk p k0);refine⟨num p,c1,h.numlt p k0,k1,?_,?_⟩
  ·rcases k2 with k2|⟨rfl,k2⟩
   ·exact .inl (h.lt_of k0 k2)
   ·exact .inr ⟨h.numfst k hk,k2⟩
  ·show num (D.nx (fst (num p)) c1)=v
   obtain⟨b,hb,rfl⟩:=hD.cols c1 k1;have hq:=qeg ok h hp k0 hb;unfold DF.step at hq;rw[k3,h.numfst v hvM] at hq;exact hq
 ·have e:D.Eqv (fst k) (fst l):=fun u hu=>by
   have:=he u hu;rw[←h.numfst k hk,←h.numfst l hl,qdy ok h hp (h.fstlt k hk) hu,qdy ok h hp (h.fstlt l hl) hu] at this;exact this
  have:=(h.same (h.fstlt k hk) (h.fstlt l hl)).2 ((hp _ (h.fstlt k hk) _ (h.fstlt l hl)).2 e);rw[h.numfst k hk,h.numfst l hl] at this;exact this
variable {α:Type} {look:Nat→α}
theorem qgj (hD:D.Ok) (h:qbf look D.W num fst M) (hp:∀c,c<D.W→∀d,d<D.W→(look c=look d↔∀s,s<D.n→D.nx s c=D.nx s d)) {s b:Nat} (hs:s<D.n) (hb:b<256):(D.narrow num fst M).step s b=D.step s b:=by
 have hc:=hD.bc b hb;exact(hp _ (h.fstlt _ (h.numlt _ hc)) _ hc).1 (h.lk _ hc) s hs
theorem qb6 (hD:D.Ok) (h:qbf look D.W num fst M) (hp:∀c,c<D.W→∀d,d<D.W→(look c=look d↔∀s,s<D.n→D.nx s c=D.nx s d)):∀ {t:List Nat} {s:Nat},s<D.n→Txt t→(D.narrow num fst M).run s t=D.run s t
 |[],_,_,_=>rfl
 |b::t,s,hs,ht=>by rw[DF.run_cons,DF.run_cons,qgj hD h hp hs ht.tail.1,qb6 hD h hp (hD.step hs ht.tail.1) ht.tail.2]
theorem qfh (hD:D.Pre) (hd:∀s,s<D.n→∀t,t<D.n→D.Eqv s t→s=t) (h:qbf look D.W num fst M) (hp:∀c,c<D.W→∀d,d<D.W→(look c=look d↔∀s,s<D.n→D.nx s c=D.nx s d)):(D.narrow num fst M).Right:=by
 have ok:=hD.toOk;obtain⟨_,z1⟩:=h.zero ok.W0;refine { n0:=ok.n0,W0:=z1,bc:=fun b hb=>h.numlt _ (ok.bc b hb),nx:=fun s hs c hc=>ok.nx s hs _ (h.fstlt c hc),reach:=fun s hs=>?_,dist:=fun s hs t ht he=>?_,cold:=fun c hc d hd' he=>?_,colf:=fun b hb v hv=>?_,cols:=fun c hc=>?_,stf:=fun s hs c hc v h0 hv=>?_ }
 ·obtain⟨t,h1,h2⟩:=hD.reach s hs
  exact⟨t,h1,(qb6 ok h hp ok.n0 h1).trans h2⟩
 ·refine hd s hs t ht (fun u hu=>?_)
  have:=he u hu;unfold DF.lab at this ⊢;rw[qb6 ok h hp hs hu,qb6 ok h hp ht hu] at this;exact this
 ·have:=(h.same (h.fstlt c hc) (h.fstlt d hd')).2 ((hp _ (h.fstlt c hc) _ (h.fstlt d hd')).2 he)
  rw[h.numfst c hc,h.numfst d hd'] at this;exact this
 ·have hv':v<num (D.bc b):=hv
  have hc:=ok.bc b hb;have h1:=h.inc v _ hv' (h.numlt _ hc);have h2:=h.le hc;obtain⟨b',k1,k2⟩:=hD.colf b hb (fst v) (by omega);refine⟨b',k1,?_⟩;show num (D.bc b')=v;rw[k2];exact h.numfst v (by have:=h.numlt _ hc;omega)
 ·obtain⟨b,k1,k2⟩:=hD.cols (fst c) (h.fstlt c hc)
  refine⟨b,k1,?_⟩;show num (D.bc b)=c;rw[k2];exact h.numfst c hc
 ·obtain⟨s',c',k0,k1,k2,k3⟩:=hD.stf s hs (fst c) (h.fstlt c hc) v h0 hv
  refine⟨s',num c',h.numlt c' k1,?_,?_⟩
  ·rcases k2 with k2|⟨rfl,k2⟩
   ·exact .inl k2
   ·exact .inr ⟨rfl,h.lt_of k1 k2⟩
  ·show D.nx s' (fst (num c'))=v
   rw[(hp _ (h.fstlt _ (h.numlt c' k1)) _ k1).1 (h.lk c' k1) s' k0];exact k3
end
end Go.Proofs.YtdgoilkgplnhfaaGreat
namespace Go.Proofs.YtdgoilkgplnhfaaGreat
open Go.RowKit Go.Lib Go.Maps
def qab (L:List Nat):List Value:=L.map fun(n:Nat)=>Value.int .i64 (n:Int)
def qan (w:World) (base:Nat) (v:Value) (L:List Nat):Prop:=w.ownsRow base 3 1 v L.length (qab L)
theorem qa1 (L:List Nat) (n:Nat):qab (L++[n])=qab L++[.int .i64 (n:Int)]:=by simp[qab]
theorem qaf (L:List Nat):(qab L).length=L.length:=by simp[qab]
theorem qde (L:List Nat) (i:Nat) (h:i<L.length):(qab L)[i]? =some (.int .i64 (L[i]:Int)):=by simp[qab,h]
theorem qan.nil (w:World) (base:Nat):qan w base (.slice none 0 0) []:=World.ownsRow_nil w base 3 1
theorem qbs (n:Nat):(madeCells (Value.int .i64 0).cells (n*1)).toList=qab (List.replicate n 0):=by
 unfold qab;simp only[madeCells,Value.cells,List.map_replicate,Nat.mul_one];rw[List.eq_replicate_iff];refine⟨by simp,fun b hb=>?_⟩;simp only[Array.toList_map,List.mem_map] at hb;obtain⟨x,_,rfl⟩:=hb;simp[Nat.mod_one]
theorem Tryz.info3n:(Tryz.prog.info? 3).map (fun i=>(i.zero,i.size,i.bytes))=some (some (.int .i64 0),1,8):=by kernel_rfl
theorem qan.cell {w:World} {base g cap:Nat} {L:List Nat} {n:Nat} (h:qan w base (.slice (some ⟨g,0,none⟩) n cap) L) {i:Nat} (hi:i<L.length):w.cell? ⟨g,i,none⟩=some (.int .i64 (L[i]:Int)):=by
 have hh:w.ownsRow base 3 1 (.slice (some ⟨g,0,none⟩) n cap) L.length (qab L):=h;have hn:n=L.length:=by
  rcases hh.2 with⟨e,e2⟩|⟨g',c',cur,e,_⟩
  ·cases e
  ·injection e with _ e2 _
 subst hn;rw[hh.cellAt i (by omega),qde L i hi]
theorem qbq (L:List Nat) (i n:Nat):(qab L).set i (.int .i64 (n:Int))=qab (L.set i n):=by simp[qab,List.map_set]
theorem qan.store {w:World} {base g cap n:Nat} {L:List Nat} (h:qan w base (.slice (some ⟨g,0,none⟩) n cap) L) (i x:Nat):qan (w.setCell ⟨g,i,none⟩ (.int .i64 (x:Int))) base (.slice (some ⟨g,0,none⟩) n cap) (L.set i x)∧Kept (fun k=>k=g) w (w.setCell ⟨g,i,none⟩ (.int .i64 (x:Int))):=by
 have hh:w.ownsRow base 3 1 (.slice (some ⟨g,0,none⟩) n cap) L.length (qab L):=h;have hn:n=L.length:=by
  rcases hh.2 with⟨e,e2⟩|⟨g',c',cur,e,_⟩
  ·cases e
  ·injection e with _ e2 _
 subst hn;obtain⟨h1,h2⟩:=hh.stored i (.int .i64 (x:Int));refine⟨?_,(qae h2).mono (fun k hk=>by injection hk with hk;exact hk.symm)⟩;unfold qan;rw[List.length_set,←qbq];exact h1
def qc4 (k:TypeId) (w:World) (b:Nat) (ks:List Lit):Prop:=∃D:DataW Unit,w.ownsMap Tryz.prog k (plainElem Tryz.prog 3) b ks.length D∧(∀kl,Maps.has D kl=true↔kl∈ks)∧∀i (h:i<ks.length),D.atKey ks[i] (.lit (.int .i64 0))=.lit (.int .i64 (i:Int))
theorem qc4.congr {k:TypeId} {w w':World} {b:Nat} {ks:List Lit} (h:qc4 k w b ks) (e:w'.heap[b]? =w.heap[b]?):qc4 k w' b ks:=by
 obtain⟨D,⟨es,cl,h1,h2⟩,h3⟩:=h;exact⟨D,⟨es,cl,e.trans h1,h2⟩,h3⟩
theorem qc4.blk {k:TypeId} {w:World} {b:Nat} {ks:List Lit} (h:qc4 k w b ks):∃es cl,w.heap[b]? =some (.map es cl):=by
 obtain⟨D,⟨es,cl,h1,h2⟩,h3⟩:=h;exact⟨es,cl,h1⟩
theorem qc4.lt {k:TypeId} {w:World} {b:Nat} {ks:List Lit} (h:qc4 k w b ks):b<w.heap.size:=by
 obtain⟨D,h1,_⟩:=h;exact h1.lt
theorem qc4.made (k:TypeId) (w:World):qc4 k (w.alloc (.map #[] 0)) w.heap.size []:=
 ⟨.map [],World.ownsMap_made w Tryz.prog k _,fun kl=>by simp[Maps.has_eq],fun i h=>by cases h⟩
theorem qc4.below {k:TypeId} {w w':World} {b:Nat} {ks:List Lit} (h:qc4 k w b ks) (x:Below w.heap.size w w'):qc4 k w' b ks:=h.congr (x.block b h.lt)
theorem qc4.kept {k:TypeId} {F:Nat→Prop} {w w':World} {b:Nat} {ks:List Lit} (h:qc4 k w b ks) (x:Kept F w w') (hF:¬F b):qc4 k w' b ks:=h.congr (x.block b h.lt hF)
theorem qba {k:TypeId} {w:World} {b base size n:Nat} {e:TypeId} {v:Value} {xs:List Value} {ks:List Lit} (h:qc4 k w b ks) (ho:w.ownsRow base e size v n xs):¬v.ownBlock=some b:=fun hf=>by
 obtain⟨es,cl,h1⟩:=h.blk;obtain⟨cs,h2⟩:=qbl ho b hf;rw[h1] at h2;cases h2
theorem qbz {D:DataW Unit} {ks:List Lit} (h:∀i (h:i<ks.length),D.atKey ks[i] (.lit (.int .i64 0))=.lit (.int .i64 (i:Int))) {kl:Lit} {c:Int} (hc:D.atKey kl (.lit (.int .i64 0))=.lit (.int .i64 c)) (hm:kl∈ks):∃i,∃h:i<ks.length,ks[i]=kl∧c=(i:Int):=by
 obtain⟨i,hi,e⟩:=List.mem_iff_getElem.1 hm;refine⟨i,hi,e,?_⟩;have:=h i hi;rw[e,hc] at this;injection this with this
 injection this with _ this
theorem qc4.put {k:TypeId} {w':World} {b:Nat} {ks:List Lit} {kl:Lit} {D:DataW Unit} (hk:WideAt.IsKeyLit kl) (hn:kl∉ks) (hm:IsMap D) (hh:∀kl,Maps.has D kl=true↔kl∈ks) (ha:∀i (h:i<ks.length),D.atKey ks[i] (.lit (.int .i64 0))=.lit (.int .i64 (i:Int)))
 (h1:w'.ownsMap Tryz.prog k (plainElem Tryz.prog 3) b (ks.length+1) (D.put kl (.lit (.int .i64 (ks.length:Int))))):qc4 k w' b (ks++[kl]):=by
 refine⟨D.put kl (.lit (.int .i64 (ks.length:Int))),by rw[List.length_append];exact h1,fun x=>?_,fun i hi=>?_⟩
 ·by_cases hx:x=kl
  ·subst hx
   rw[Maps.has_put_same hm hk];simp
  ·rw[Maps.has_put_other hx,hh x]
   simp[hx]
 ·by_cases hi2:i<ks.length
  ·rw[List.getElem_append_left hi2,Maps.atKey_put_other (fun e=>hn (by rw[←e];exact List.getElem_mem hi2))]
   exact ha i hi2
  ·have:i=ks.length:=by rw[List.length_append,List.length_singleton] at hi;omega
   subst this;rw[List.getElem_append_right (Nat.le_refl _)];simp only[Nat.sub_self,List.getElem_cons_zero];exact Maps.atKey_put_same hm hk _ _
def gN (L:List Nat) (i:Nat):Nat:=L.getD i 0
theorem qah {L:List Nat} {i:Nat} (h:i<L.length):gN L i=L[i]:=by simp[gN,List.getD_eq_getElem?_getD,h]
theorem qau {L:List Nat} {x i:Nat} (h:i<L.length):gN (L++[x]) i=gN L i:=by simp[gN,List.getD_eq_getElem?_getD,List.getElem?_append,h]
theorem qat (L:List Nat) (x:Nat):gN (L++[x]) L.length=x:=by simp[gN,List.getD_eq_getElem?_getD]
section
variable {α:Type} {look:Nat→α} {num fst:List Nat}
theorem qbf.nil:qbf look 0 (gN []) (gN []) 0:=⟨fun i h=>by omega,fun i h=>by omega,fun i h=>by omega,fun i h=>by omega,fun i h=>by omega,fun i l _ h=>by omega⟩
theorem qbf.hit (h:qbf look num.length (gN num) (gN fst) fst.length) {n:Nat} (hn:n<fst.length) (he:look (gN fst n)=look num.length):qbf look (num.length+1) (gN (num++[n])) (gN fst) fst.length:=by
 have e:∀i,i<num.length→gN (num++[n]) i=gN num i:=fun i hi=>qau hi
 have hf:∀k,k<fst.length→gN fst k<num.length:=h.fstlt;refine⟨fun i hi=>?_,fun i hi=>?_,fun k hk=>by have:=hf k hk;omega,fun k hk=>by rw[e _ (hf k hk)];exact h.numfst k hk,h.first,h.inc⟩
 ·by_cases h2:i<num.length
  ·rw[e i h2];exact h.numlt i h2
  ·obtain rfl:i=num.length:=by omega
   rw[qat];exact hn
 ·by_cases h2:i<num.length
  ·rw[e i h2];exact h.lk i h2
  ·obtain rfl:i=num.length:=by omega
   rw[qat];exact he
theorem qbf.miss (h:qbf look num.length (gN num) (gN fst) fst.length) (hne:∀k,k<fst.length→look (gN fst k)≠look num.length):qbf look (num.length+1) (gN (num++[fst.length])) (gN (fst++[num.length])) (fst.length+1):=by
 have e:∀i,i<num.length→gN (num++[fst.length]) i=gN num i:=fun i hi=>qau hi
 have e2:∀k,k<fst.length→gN (fst++[num.length]) k=gN fst k:=fun i hi=>qau hi
 have hf:∀k,k<fst.length→gN fst k<num.length:=h.fstlt;have hne2:∀i,i<num.length→look i≠look num.length:=fun i hi he=>hne _ (h.numlt i hi) ((h.lk i hi).trans he)
 refine⟨fun i hi=>?_,fun i hi=>?_,fun k hk=>?_,fun k hk=>?_,fun k hk i hi=>?_,fun k l hkl hl=>?_⟩
 ·by_cases h2:i<num.length
  ·rw[e i h2];have:=h.numlt i h2;omega
  ·obtain rfl:i=num.length:=by omega
   rw[qat];omega
 ·by_cases h2:i<num.length
  ·rw[e i h2,e2 _ (h.numlt i h2)];exact h.lk i h2
  ·obtain rfl:i=num.length:=by omega
   rw[qat,qat]
 ·by_cases h2:k<fst.length
  ·rw[e2 k h2];have:=hf k h2;omega
  ·obtain rfl:k=fst.length:=by omega
   rw[qat];omega
 ·by_cases h2:k<fst.length
  ·rw[e2 k h2,e _ (hf k h2)];exact h.numfst k h2
  ·obtain rfl:k=fst.length:=by omega
   rw[qat,qat]
 ·by_cases h2:k<fst.length
  ·rw[e2 k h2] at hi ⊢;exact h.first k h2 i hi
  ·obtain rfl:k=fst.length:=by omega
   rw[qat] at hi ⊢;exact hne2 i hi
 ·by_cases h2:l<fst.length
  ·rw[e2 l h2,e2 k (by omega)];exact h.inc k l hkl h2
  ·obtain rfl:l=fst.length:=by omega
   rw[qat,e2 k (by omega)];exact hf k (by omega)
end
structure NmS (k:TypeId) (w0:World) (lit:Nat→Lit) (N mb:Nat) (v1 v2:Value) (num fst:List Nat) (w:World):Prop where
 map:qc4 k w mb (fst.map lit)
 o1:qan w w0.heap.size v1 (num++List.replicate (N-num.length) 0)
 o2:qan w w0.heap.size v2 fst
 ap:∀b,v1.ownBlock=some b→¬v2.ownBlock=some b
 mge:w0.heap.size≤mb
 nf:qbf lit num.length (gN num) (gN fst) fst.length
 le:num.length≤N
 bel:Below w0.heap.size w0 w
 v2ne:∀b,v2.ownBlock=some b→¬b=mb
section
variable {k:TypeId} {w0 w w':World} {lit:Nat→Lit} {N mb:Nat} {v1 v2:Value} {num fst:List Nat}
theorem NmS.below (h:NmS k w0 lit N mb v1 v2 num fst w) (x:Below w.heap.size w w'):NmS k w0 lit N mb v1 v2 num fst w':=
 ⟨h.map.below x,own_below h.o1 x,own_below h.o2 x,h.ap,h.mge,h.nf,h.le,h.bel.trans (x.mono h.bel.size),h.v2ne⟩
theorem qhi (num:List Nat) {N x:Nat} (h:num.length<N):(num++List.replicate (N-num.length) 0).set num.length x=(num++[x])++List.replicate (N-(num++[x]).length) 0:=by
 rw[List.set_append_right _ _ (Nat.le_refl _),Nat.sub_self,List.length_append,List.length_singleton,List.append_assoc];obtain⟨m,hm⟩:∃m,N-num.length=m+1:=⟨N-num.length-1,by omega⟩;rw[hm,show N-(num.length+1)=m by omega];rfl
end
end Go.Proofs.YtdgoilkgplnhfaaGreat
namespace Go.Proofs.YtdgoilkgplnhfaaGreat
structure qdr (D:DF) (k m:Nat) (f:Nat→Nat):Prop where
 lt:∀s,s<D.n→f s<m
 co:∀s,s<D.n→∀t,t<D.n→D.Eqv s t→f s=f t
 ou:∀s,s<D.n→∀t,t<D.n→f s=f t→D.ou s=D.ou t
 hop:∀s,s<D.n→∀t,t<D.n→f s=f t→∀c,c<D.W→f (D.nx s c)=f (D.nx t c)∨k≤f (D.nx s c)∨k≤f (D.nx t c)
structure qko (D:DF) (k m0:Nat) (f0:Nat→Nat) (C m:Nat) (f:Nat→Nat):Prop where
 lt:∀s,s<D.n→f s<m
 mle:m0≤m
 re:∀s,s<D.n→∀t,t<D.n→f s=f t→f0 s=f0 t
 st:∀c,c<C→∀s,s<D.n→∀t,t<D.n→f s=f t→(f0 (D.nx s c)=k↔f0 (D.nx t c)=k)
 kp:∀s,s<D.n→f s=f0 s∨m0≤f s
 co:∀s,s<D.n→∀t,t<D.n→D.Eqv s t→f s=f t
section
variable {D:DF} {k m m0 C:Nat} {f f0:Nat→Nat}
theorem qko.start (h:qdr D k m f):qko D k m f 0 m f:=
 ⟨h.lt,Nat.le_refl _,fun _ _ _ _ e=>e,fun c hc=>by omega,fun _ _=>.inl rfl,h.co⟩
theorem qko.next (hD:D.Pre) (h0:qdr D k m0 f0) (h:qko D k m0 f0 C m f) (hC:C<D.W) {m':Nat} {f':Nat→Nat} (hm:m≤m') (hlt:∀s,s<D.n→f' s<m') (hk:∀s,s<D.n→f' s=f s∨m≤f' s)
 (he:∀s,s<D.n→∀t,t<D.n→(f' s=f' t↔f s=f t∧(f0 (D.nx s C)=k↔f0 (D.nx t C)=k))):qko D k m0 f0 (C+1) m' f':=by
 have ok:=hD.toOk;refine⟨hlt,Nat.le_trans h.mle hm,fun s hs t ht e=>h.re s hs t ht ((he s hs t ht).1 e).1,fun c hc s hs t ht e=>?_,fun s hs=>?_,fun s hs t ht e=>?_⟩
 ·obtain⟨e1,e2⟩:=(he s hs t ht).1 e
  by_cases h2:c<C
  ·exact h.st c h2 s hs t ht e1
  ·have:c=C:=by omega
   subst this;exact e2
 ·have:=h.mle
  rcases hk s hs with h1|h1
  ·rcases h.kp s hs with h2|h2
   ·exact .inl (h1.trans h2)
   ·exact .inr (by omega)
  ·exact .inr (by omega)
 ·obtain⟨b,hb,rfl⟩:=hD.cols C hC
  have e2:=h0.co _ (ok.nx s hs _ (ok.bc b hb)) _ (ok.nx t ht _ (ok.bc b hb)) (e.step hb);exact(he s hs t ht).2 ⟨h.co s hs t ht e,by rw[e2]⟩
theorem qdr.next (hD:D.Ok) (h0:qdr D k m0 f0) (hk:k<m0) (h:qko D k m0 f0 D.W m f):qdr D (k+1) m f:=by
 refine⟨h.lt,h.co,fun s hs t ht e=>h0.ou s hs t ht (h.re s hs t ht e),fun s hs t ht e c hc=>?_⟩;have hx:=hD.nx s hs c hc;have hy:=hD.nx t ht c hc;have e1:=h0.hop s hs t ht (h.re s hs t ht e) c hc;have e2:=h.st c hc s hs t ht e;generalize D.nx s c=x at *;generalize D.nx t c=y at *;rcases h.kp x hx with p1|p1
 ·rcases h.kp y hy with p2|p2
  ·rw[p1,p2]
   omega
  ·exact .inr (.inr (by omega))
 ·exact .inr (.inl (by omega))
theorem qdr.same (hD:D.Ok) (hs:∀s,s<D.n→∀t,t<D.n→f s=f t→D.ou s=D.ou t) (hn:∀s,s<D.n→∀t,t<D.n→f s=f t→∀c,c<D.W→f (D.nx s c)=f (D.nx t c)):∀ {u:List Nat} {s t:Nat},s<D.n→t<D.n→f s=f t→Txt u→D.lab s u=D.lab t u
 |[],s,t,h1,h2,e,_=>hs s h1 t h2 e
 |b::u,s,t,h1,h2,e,hu=>by
  have hb:=hu.tail.1;have:=qdr.same hD hs hn (hD.step h1 hb) (hD.step h2 hb) (hn s h1 t h2 e _ (hD.bc b hb)) hu.tail.2;exact this
theorem qdr.done (hD:D.Ok) (h:qdr D m m f):∀s,s<D.n→∀t,t<D.n→(f s=f t↔D.Eqv s t):=fun s hs t ht=>
 ⟨fun e u hu=>qdr.same hD h.ou (fun s hs t ht e c hc=>by
   have:=h.hop s hs t ht e c hc;have:=h.lt _ (hD.nx s hs c hc);have:=h.lt _ (hD.nx t ht c hc);omega) hs ht e hu,h.co s hs t ht⟩
theorem qdr.alone (h:qdr D k m f) (hi:∀s,s<D.n→∀t,t<D.n→f s=f t→s=t):∀s,s<D.n→∀t,t<D.n→(f s=f t↔D.Eqv s t):=fun s hs t ht=>
 ⟨fun e=>by rw[hi s hs t ht e];exact DF.Eqv.refl _ _,h.co s hs t ht⟩
end
def qks (D:DF) (N:Nat):Prop:=∃g:Nat→Nat,(∀i,i<N→g i<D.n)∧∀i,i<N→∀j,j<N→D.Eqv (g i) (g j)→i=j
theorem qdr.many {D:DF} {k m:Nat} {f:Nat→Nat} (h:qdr D k m f) (hne:∀r,r<m→∃s,s<D.n∧f s=r):qks D m:=by
 have hc:∀r,∃s,r<m→s<D.n∧f s=r:=fun r=>by
  by_cases hr:r<m
  ·obtain⟨s,hs⟩:=hne r hr
   exact⟨s,fun _=>hs⟩
  ·exact⟨0,fun h=>absurd h hr⟩
 refine⟨fun r=>(hc r).choose,fun i hi=>((hc i).choose_spec hi).1,fun i hi j hj e=>?_⟩;have h1:=(hc i).choose_spec hi;have h2:=(hc j).choose_spec hj;have:=h.co _ h1.1 _ h2.1 e;rw[h1.2,h2.2] at this;exact this
theorem qax:∀(M N:Nat) (g:Nat→Nat),(∀i,i<N→g i<M)→(∀i,i<N→∀j,j<N→g i=g j→i=j)→N≤M
 |_,0,_,_,_=>Nat.zero_le _
 |0,N+1,g,h,_=>absurd (h 0 (by omega)) (by omega)
 |M+1,N+1,g,h,hi=>by
  have:=qax M N (fun i=>if g i=M then g N else g i) (fun i hi'=>by
   have h1:=h i (by omega);have h2:=h N (by omega);by_cases e:g i=M
   ·rw[if_pos e]
    have:¬g N=M:=fun e2=>by have:=hi i (by omega) N (by omega) (by omega);omega
    omega
   ·rw[if_neg e];omega) (fun i hi' j hj e=>by
   have hij:=hi i (by omega) j (by omega);have hiN:=hi i (by omega) N (by omega);have hjN:=hi j (by omega) N (by omega);by_cases e1:g i=M
   ·by_cases e2:g j=M
    ·exact hij (by omega)
    ·rw[if_pos e1,if_neg e2] at e;omega
   ·by_cases e2:g j=M
    ·rw[if_neg e1,if_pos e2] at e;omega
    ·rw[if_neg e1,if_neg e2] at e;exact hij e)
  omega
theorem qks.le {D E:DF} {N:Nat} (hD:qks D N) (hr:∀s,s<D.n→∃t,Txt t∧D.run 0 t=s) (hE:E.Ok) (hl:∀t,Txt t→D.lab 0 t=E.lab 0 t):N≤E.n:=by
 obtain⟨g,h1,h2⟩:=hD;have hc:∀i,∃s',i<N→s'<E.n∧∀u,Txt u→E.lab s' u=D.lab (g i) u:=fun i=>by
  by_cases hi:i<N
  ·obtain⟨t,k1,k2⟩:=hr (g i) (h1 i hi)
   refine⟨E.run 0 t,fun _=>⟨hE.run hE.n0 k1,fun u hu=>?_⟩⟩;have:=hl (t++u) (k1.app hu);unfold DF.lab at this ⊢;rw[DF.run_app,DF.run_app,k2] at this;exact this.symm
  ·exact⟨0,fun h=>absurd h hi⟩
 refine qax E.n N (fun i=>(hc i).choose) (fun i hi=>((hc i).choose_spec hi).1) (fun i hi j hj e=>h2 i hi j hj (fun u hu=>?_));have e':(hc i).choose=(hc j).choose:=e;rw[←((hc i).choose_spec hi).2 u hu,←((hc j).choose_spec hj).2 u hu,e']
end Go.Proofs.YtdgoilkgplnhfaaGreat

