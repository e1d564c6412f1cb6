/-
  States in parts, in one list, part by part; states marked in front of their parts, parts cut behind their marked states. Of no program: no condition.
-/
import Derived.Test.YtdgoilkgplnhfaaGreatJ03
import Derived.Test.YtdgoilkgplnhfaaGreatJ01
namespace Go.Proofs.YtdgoilkgplnhfaaGreat
structure Rm where
 a:Nat
 m:Nat
 e:Nat
def gR (R:List Rm) (k:Nat):Rm:=R.getD k ⟨0,0,0⟩
theorem qc5 (R:List Rm) {k:Nat} (h:k<R.length) (x:Rm) (j:Nat):gR (R.set k x) j=if j=k then x else gR R j:=by
 unfold gR;rw[List.getD_eq_getElem?_getD,List.getD_eq_getElem?_getD,List.getElem?_set];by_cases hj:k=j
 ·subst hj;simp[h]
 ·rw[if_neg hj,if_neg (fun e=>hj e.symm)]
theorem qgk {R:List Rm} {x:Rm} {i:Nat} (h:i<R.length):gR (R++[x]) i=gR R i:=by simp[gR,List.getD_eq_getElem?_getD,List.getElem?_append,h]
theorem qgl (R:List Rm) (x:Rm):gR (R++[x]) R.length=x:=by simp[gR,List.getD_eq_getElem?_getD]
theorem qbw (L:List Nat) {k:Nat} (h:k<L.length) (x j:Nat):gN (L.set k x) j=if j=k then x else gN L j:=by
 unfold gN;rw[List.getD_eq_getElem?_getD,List.getD_eq_getElem?_getD,List.getElem?_set];by_cases hj:k=j
 ·subst hj;simp[h]
 ·rw[if_neg hj,if_neg (fun e=>hj e.symm)]
structure PtS (n:Nat) (L P O:List Nat) (R:List Rm):Prop where
 ll:L.length=n
 pl:P.length=n
 ol:O.length=n
 li:∀i,i<n→gN L i<n∧gN P (gN L i)=i
 pi:∀s,s<n→gN P s<n∧gN L (gN P s)=s
 os:∀s,s<n→gN O s<R.length∧(gR R (gN O s)).a≤gN P s∧gN P s<(gR R (gN O s)).e
 rm:∀k,k<R.length→(gR R k).a≤(gR R k).m∧(gR R k).m≤(gR R k).e∧(gR R k).a<(gR R k).e∧(gR R k).e≤n
 ro:∀k,k<R.length→∀i,(gR R k).a≤i→i<(gR R k).e→gN O (gN L i)=k
def MkS (n:Nat) (P O:List Nat) (R:List Rm) (M:Nat→Prop):Prop:=∀s,s<n→(M s↔gN P s<(gR R (gN O s)).m)
section
variable {n:Nat} {L P O:List Nat} {R:List Rm} {M:Nat→Prop}
theorem PtS.many (h:PtS n L P O R):R.length≤n:=
 qax n R.length (fun k=>(gR R k).a) (fun k hk=>by have:=h.rm k hk;omega) (fun i hi j hj e=>by
  have h1:=h.rm i hi;have h2:=h.rm j hj;have e':(gR R i).a=(gR R j).a:=e;rw[←h.ro i hi _ (Nat.le_refl _) h1.2.2.1,←h.ro j hj _ (Nat.le_refl _) h2.2.2.1,e'])
theorem PtS.at (h:PtS n L P O R) (hM:MkS n P O R M) {s:Nat} (hs:s<n) (hn:¬M s):gN O s<R.length∧gN P s<n∧(gR R (gN O s)).m≤gN P s∧(gR R (gN O s)).m<n∧gN L (gR R (gN O s)).m<n∧(gR R (gN O s)).m<(gR R (gN O s)).e∧(gR R (gN O s)).a≤(gR R (gN O s)).m:=by
 have h1:=h.os s hs;have h2:=h.pi s hs;have h3:=h.rm _ h1.1;have h4:¬gN P s<(gR R (gN O s)).m:=fun e=>hn ((hM s hs).2 e)
 exact⟨h1.1,h2.1,by omega,by omega,(h.li _ (by omega)).1,by omega,h3.1⟩
theorem PtS.mark (h:PtS n L P O R) (hM:MkS n P O R M) {s:Nat} (hs:s<n) (hn:¬M s) {r:Rm} (hr:gR R (gN O s)=r) {o:Nat} (ho:gN L r.m=o):
 PtS n ((L.set r.m s).set (gN P s) o) ((P.set o (gN P s)).set s r.m) O (R.set (gN O s) ⟨r.a,r.m+1,r.e⟩)∧MkS n ((P.set o (gN P s)).set s r.m) O (R.set (gN O s) ⟨r.a,r.m+1,r.e⟩) (fun t=>M t∨t=s):=by
 obtain⟨h1,h2,h3,h4,h5,h6,h7⟩:=h.at hM hs hn;rw[hr] at h3 h4 h5 h6 h7;rw[ho] at h5;have hos:=h.os s hs;rw[hr] at hos;have hps:=h.pi s hs;have hrm:=h.rm _ h1;rw[hr] at hrm;have ho2:=h.li r.m h4;rw[ho] at ho2;have hoo:=h.ro _ h1 r.m (by rw[hr];exact h7) (by rw[hr];exact h6);rw[ho] at hoo;have lS:∀i,gN ((L.set r.m s).set (gN P s) o) i=if i=gN P s then o else if i=r.m then s else gN L i:=fun i=>by
  rw[qbw _ (by rw[List.length_set,h.ll];exact h2),qbw _ (by rw[h.ll];exact h4)]
 have pS:∀t,gN ((P.set o (gN P s)).set s r.m) t=if t=s then r.m else if t=o then gN P s else gN P t:=fun t=>by
  rw[qbw _ (by rw[List.length_set,h.pl];exact hs),qbw _ (by rw[h.pl];exact h5)]
 have rS:∀k,gR (R.set (gN O s) ⟨r.a,r.m+1,r.e⟩) k=if k=gN O s then⟨r.a,r.m+1,r.e⟩ else gR R k:=fun k=>qc5 R h1 _ k
 have hPs:∀t,t<n→gN P t=gN P s→t=s:=fun t ht e=>by rw[←(h.pi t ht).2,←hps.2,e]
 have hPo:∀t,t<n→gN P t=r.m→t=o:=fun t ht e=>by rw[←(h.pi t ht).2,e,ho]
 have hLo:∀i,i<n→gN L i=o→i=r.m:=fun i hi e=>by rw[←(h.li i hi).2,e,ho2.2]
 have hLs:∀i,i<n→gN L i=s→i=gN P s:=fun i hi e=>by rw[←(h.li i hi).2,e]
 refine⟨⟨by simp[h.ll],by simp[h.pl],h.ol,fun i hi=>?_,fun t ht=>?_,fun t ht=>?_,fun k hk=>?_,fun k hk i hi1 hi2=>?_⟩,fun t ht=>?_⟩
 ·rw[lS]
  by_cases e1:i=gN P s
  ·rw[if_pos e1,pS]
   by_cases e2:o=s
   ·rw[if_pos e2,e1]
    exact⟨h5,by rw[←ho2.2,e2]⟩
   ·rw[if_neg e2,if_pos rfl];exact⟨h5,e1.symm⟩
  ·rw[if_neg e1]
   by_cases e2:i=r.m
   ·rw[if_pos e2,pS,if_pos rfl];exact⟨hs,e2.symm⟩
   ·rw[if_neg e2,pS,if_neg (fun e=>e1 (hLs i hi e)),if_neg (fun e=>e2 (hLo i hi e))]
    exact h.li i hi
 ·rw[pS]
  by_cases e1:t=s
  ·rw[if_pos e1,lS]
   by_cases e2:r.m=gN P s
   ·rw[if_pos e2];exact⟨h4,by rw[e1,←hps.2,←e2,ho]⟩
   ·rw[if_neg e2,if_pos rfl];exact⟨h4,e1.symm⟩
  ·rw[if_neg e1]
   by_cases e2:t=o
   ·rw[if_pos e2,lS,if_pos rfl];exact⟨h2,e2.symm⟩
   ·rw[if_neg e2,lS,if_neg (fun e=>e1 (hPs t ht e)),if_neg (fun e=>e2 (hPo t ht e))]
    exact h.pi t ht
 ·rw[List.length_set,pS,rS]
  have hot:=h.os t ht;refine⟨hot.1,?_⟩;by_cases e1:t=s
  ·subst e1
   rw[if_pos rfl,if_pos rfl];exact⟨h7,h6⟩
  ·rw[if_neg e1]
   by_cases e2:t=o
   ·rw[if_pos e2,e2,hoo,if_pos rfl];exact⟨hos.2.1,hos.2.2⟩
   ·rw[if_neg e2]
    by_cases e3:gN O t=gN O s
    ·rw[if_pos e3]
     have:=hot.2;rw[e3,hr] at this;exact this
    ·rw[if_neg e3];exact hot.2
 ·rw[List.length_set] at hk
  rw[rS];by_cases e1:k=gN O s
  ·rw[if_pos e1];show r.a≤r.m+1∧r.m+1≤r.e∧r.a<r.e∧r.e≤n;omega
  ·rw[if_neg e1];exact h.rm k hk
 ·rw[List.length_set] at hk
  have hk2:=h.rm k hk;have hkk:(gR R k).a≤i∧i<(gR R k).e:=by
   rw[rS] at hi1 hi2;by_cases e1:k=gN O s
   ·rw[if_pos e1] at hi1 hi2;rw[e1,hr];exact⟨hi1,hi2⟩
   ·rw[if_neg e1] at hi1 hi2;exact⟨hi1,hi2⟩
  have hO:=h.ro k hk i hkk.1 hkk.2;rw[lS];by_cases e1:i=gN P s
  ·rw[if_pos e1,hoo]
   rw[e1,hps.2] at hO;exact hO
  ·rw[if_neg e1]
   by_cases e2:i=r.m
   ·rw[if_pos e2,←hO,e2,ho,hoo]
   ·rw[if_neg e2];exact hO
 ·rw[pS,rS]
  have hot:=hM t ht;by_cases e1:t=s
  ·subst e1
   rw[if_pos rfl,if_pos rfl];exact⟨fun _=>Nat.lt_succ_self _,fun _=>.inr rfl⟩
  ·rw[if_neg e1]
   have hP:¬gN P t=gN P s:=fun e=>e1 (hPs t ht e)
   by_cases e2:t=o
   ·subst e2
    rw[if_pos rfl,hoo,if_pos rfl];rw[hoo,ho2.2,hr] at hot;have hne:¬gN P s=r.m:=fun e=>by rw[ho2.2] at hP;exact hP e.symm
    refine⟨fun hh=>?_,fun hh=>?_⟩
    ·rcases hh with hh|hh
     ·exact absurd (hot.1 hh) (by omega)
     ·exact absurd hh e1
    ·have hh':gN P s<r.m+1:=hh
     omega
   ·rw[if_neg e2]
    have hPm:¬gN P t=r.m:=fun e=>e2 (hPo t ht e)
    by_cases e3:gN O t=gN O s
    ·rw[if_pos e3]
     rw[e3,hr] at hot;refine⟨fun hh=>?_,fun hh=>.inl (hot.2 ?_)⟩
     ·rcases hh with hh|hh
      ·have:=hot.1 hh;show _<r.m+1;omega
      ·exact absurd hh e1
     ·have hh':gN P t<r.m+1:=hh
      omega
    ·rw[if_neg e3]
     exact⟨fun hh=>hot.1 (hh.resolve_right e1),fun hh=>.inl (hot.2 hh)⟩
end
structure CtS (n:Nat) (L P O:List Nat) (R:List Rm) (Dn:Nat→Prop) (O':List Nat) (R':List Rm):Prop where
 pt:PtS n L P O' R'
 ml:R.length≤R'.length
 un:∀k,k<R.length→¬Dn k→gR R' k=gR R k
 fr:∀k,k<R'.length→(Dn k∨R.length≤k)→(gR R' k).m=(gR R' k).a
 kp:∀s,s<n→gN O' s=gN O s∨R.length≤gN O' s
 ke:∀s,s<n→¬Dn (gN O s)→gN O' s=gN O s
 iff:∀s,s<n→∀t,t<n→(gN O' s=gN O' t↔gN O s=gN O t∧(Dn (gN O s)→(gN P s<(gR R (gN O s)).m↔gN P t<(gR R (gN O t)).m)))
theorem qiw {A B:List Nat} (hl:A.length=B.length) (h:∀i,i<A.length→gN A i=gN B i):A=B:=by
 refine List.ext_getElem hl (fun i h1 h2=>?_);have:=h i h1;rw[qah h1,qah h2] at this;exact this
section
variable {n:Nat} {L P O O':List Nat} {R R':List Rm} {Dn:Nat→Prop}
theorem CtS.start (h:PtS n L P O R):CtS n L P O R (fun _=>False) O R:=
 ⟨h,Nat.le_refl _,fun _ _ _=>rfl,fun k hk hh=>hh.elim (fun h=>h.elim) (fun h=>by omega),fun _ _=>.inl rfl,fun _ _ _=>rfl,fun s _ t _=>⟨fun e=>⟨e,fun h=>h.elim⟩,fun e=>e.1⟩⟩
theorem CtS.at (h:CtS n L P O R Dn O' R') {k:Nat} (hk:k<R.length) (hd:¬Dn k):k<R'.length∧gR R' k=gR R k∧∀s,s<n→(gN O' s=k↔gN O s=k):=by
 refine⟨Nat.lt_of_lt_of_le hk h.ml,h.un k hk hd,fun s hs=>⟨fun e=>?_,fun e=>?_⟩⟩
 ·rcases h.kp s hs with h1|h1
  ·rw[←h1,e]
  ·omega
 ·rw[h.ke s hs (by rw[e];exact hd),e]
theorem CtS.full (h:CtS n L P O R Dn O' R') {k:Nat} (hk:k<R.length) (hd:¬Dn k) (hm:(gR R k).m=(gR R k).e):CtS n L P O R (fun j=>Dn j∨j=k) O' (R'.set k ⟨(gR R k).a,(gR R k).a,(gR R k).e⟩):=by
 obtain⟨h1,h2,h3⟩:=h.at hk hd;have rS:∀j,gR (R'.set k ⟨(gR R k).a,(gR R k).a,(gR R k).e⟩) j=if j=k then⟨(gR R k).a,(gR R k).a,(gR R k).e⟩ else gR R' j:=fun j=>qc5 R' h1 _ j
 have rA:∀j,(gR (R'.set k ⟨(gR R k).a,(gR R k).a,(gR R k).e⟩) j).a=(gR R' j).a:=fun j=>by
  rw[rS];by_cases e:j=k
  ·rw[if_pos e,e,h2]
  ·rw[if_neg e]
 have rE:∀j,(gR (R'.set k ⟨(gR R k).a,(gR R k).a,(gR R k).e⟩) j).e=(gR R' j).e:=fun j=>by
  rw[rS];by_cases e:j=k
  ·rw[if_pos e,e,h2]
  ·rw[if_neg e]
 have p:=h.pt;refine⟨⟨p.ll,p.pl,p.ol,p.li,p.pi,fun s hs=>by rw[List.length_set,rA,rE];exact p.os s hs,fun j hj=>?_,fun j hj i hi1 hi2=>?_⟩,by rw[List.length_set];exact h.ml,fun j hj hnd=>?_,fun j hj hh=>?_,h.kp,fun s hs hnd=>h.ke s hs (fun e=>hnd (.inl e)),fun s hs t ht=>?_⟩
 ·rw[List.length_set] at hj
  have:=p.rm j hj;rw[rA,rE,rS];by_cases e:j=k
  ·rw[if_pos e]
   show(gR R' j).a≤(gR R k).a∧(gR R k).a≤(gR R' j).e∧_;rw[e,h2] at this ⊢;omega
  ·rw[if_neg e];exact this
 ·rw[List.length_set] at hj
  rw[rA] at hi1;rw[rE] at hi2;exact p.ro j hj i hi1 hi2
 ·rw[rS,if_neg (fun e=>hnd (.inr e))]
  exact h.un j hj (fun e=>hnd (.inl e))
 ·rw[List.length_set] at hj
  rw[rS];by_cases e:j=k
  ·rw[if_pos e]
  ·rw[if_neg e]
   exact h.fr j hj (hh.elim (fun h=>.inl (h.resolve_right e)) .inr)
 ·rw[h.iff s hs t ht]
  refine⟨fun⟨e1,e2⟩=>⟨e1,fun hh=>?_⟩,fun⟨e1,e2⟩=>⟨e1,fun hh=>e2 (.inl hh)⟩⟩;rcases hh with hh|hh
  ·exact e2 hh
  ·have hsk:=p.os s hs
   have htk:=p.os t ht;rw[(h3 s hs).2 hh,h2] at hsk;rw[(h3 t ht).2 (e1▸hh),h2] at htk;rw[←e1,hh,hm];exact⟨fun _=>htk.2.2,fun _=>hsk.2.2⟩
theorem CtS.two (h:CtS n L P O R Dn O' R') {k x y u v:Nat} (hk:k<R.length) (hd:¬Dn k) (h1:(gR R k).a<(gR R k).m) (h2:(gR R k).m<(gR R k).e)
 (hc:(x=(gR R k).a∧y=(gR R k).m∧u=(gR R k).m∧v=(gR R k).e)∨(x=(gR R k).m∧y=(gR R k).e∧u=(gR R k).a∧v=(gR R k).m))
 {O2:List Nat} (hl:O2.length=n) (hO:∀s,s<n→gN O2 s=if x≤gN P s∧gN P s<y then R'.length else gN O' s):CtS n L P O R (fun j=>Dn j∨j=k) O2 (R'.set k ⟨u,u,v⟩++[⟨x,x,y⟩]):=by
 obtain⟨g1,g2,g3⟩:=h.at hk hd;have p:=h.pt;have hrk:=p.rm k g1;rw[g2] at hrk;have hin:∀s,s<n→(gN O' s=k↔(gR R k).a≤gN P s∧gN P s<(gR R k).e):=fun s hs=>by
  refine⟨fun e=>?_,fun e=>?_⟩
  ·have:=p.os s hs
   rw[e,g2] at this;exact this.2
  ·have:=p.ro k g1 (gN P s) (by rw[g2];exact e.1) (by rw[g2];exact e.2)
   rw[(p.pi s hs).2] at this;exact this
 have hls:(R'.set k ⟨u,u,v⟩).length=R'.length:=List.length_set;have rS:∀j,j<R'.length→gR (R'.set k ⟨u,u,v⟩++[⟨x,x,y⟩]) j=if j=k then⟨u,u,v⟩ else gR R' j:=fun j hj=>by rw[qgk (by rw[hls];exact hj),qc5 R' g1]
 have rQ:gR (R'.set k ⟨u,u,v⟩++[⟨x,x,y⟩]) R'.length=⟨x,x,y⟩:=by
  have:=qgl (R'.set k ⟨u,u,v⟩) ⟨x,x,y⟩;rw[hls] at this;exact this
 have hlen:(R'.set k ⟨u,u,v⟩++[(⟨x,x,y⟩:Rm)]).length=R'.length+1:=by rw[List.length_append,hls];rfl
 have hO':∀s,s<n→gN O' s<R'.length:=fun s hs=>(p.os s hs).1
 refine⟨⟨p.ll,p.pl,hl,p.li,p.pi,fun s hs=>?_,fun j hj=>?_,fun j hj i hi1 hi2=>?_⟩,by rw[hlen];have:=h.ml;omega,fun j hj hnd=>?_,fun j hj hh=>?_,fun s hs=>?_,fun s hs hnd=>?_,fun s hs t ht=>?_⟩
 ·rw[hO s hs,hlen]
  have a1:=hO' s hs;by_cases e:x≤gN P s∧gN P s<y
  ·rw[if_pos e,rQ];exact⟨Nat.lt_succ_self _,e.1,e.2⟩
  ·rw[if_neg e,rS _ a1]
   refine⟨by omega,?_⟩;by_cases e2:gN O' s=k
   ·rw[if_pos e2]
    have:=(hin s hs).1 e2;show u≤gN P s∧gN P s<v;omega
   ·rw[if_neg e2];exact(p.os s hs).2
 ·rw[hlen] at hj
  by_cases e:j<R'.length
  ·rw[rS j e]
   by_cases e2:j=k
   ·rw[if_pos e2];show u≤u∧u≤v∧u<v∧v≤n;omega
   ·rw[if_neg e2];exact p.rm j e
  ·obtain rfl:j=R'.length:=by omega
   rw[rQ];show x≤x∧x≤y∧x<y∧y≤n;omega
 ·rw[hlen] at hj
  by_cases e:j<R'.length
  ·rw[rS j e] at hi1 hi2
   have hij:(gR R' j).a≤i∧i<(gR R' j).e:=by
    by_cases e2:j=k
    ·rw[if_pos e2] at hi1 hi2
     have a1:u≤i:=hi1;have a2:i<v:=hi2;rw[e2,g2];omega
    ·rw[if_neg e2] at hi1 hi2;exact⟨hi1,hi2⟩
   have hin2:i<n:=by have:=p.rm j e;omega
   have hq:=p.li i hin2;have hv:=p.ro j e i hij.1 hij.2;rw[hO _ hq.1,hq.2,if_neg ?_,hv];rintro⟨b1,b2⟩;have hjk:j=k:=by
    rw[←hv];have:=(hin _ hq.1).2;rw[hq.2] at this;exact this (by omega)
   rw[if_pos hjk] at hi1 hi2;have a1:u≤i:=hi1;have a2:i<v:=hi2;omega
  ·obtain rfl:j=R'.length:=by omega
   rw[rQ] at hi1 hi2;have a1:x≤i:=hi1;have a2:i<y:=hi2;have hq:=p.li i (by omega);rw[hO _ hq.1,hq.2,if_pos ⟨a1,a2⟩]
 ·rw[rS j (Nat.lt_of_lt_of_le hj h.ml),if_neg (fun e=>hnd (.inr e))]
  exact h.un j hj (fun e=>hnd (.inl e))
 ·rw[hlen] at hj
  by_cases e:j<R'.length
  ·rw[rS j e]
   by_cases e2:j=k
   ·rw[if_pos e2]
   ·rw[if_neg e2];exact h.fr j e (hh.elim (fun h=>.inl (h.resolve_right e2)) .inr)
  ·obtain rfl:j=R'.length:=by omega
   rw[rQ]
 ·rw[hO s hs]
  by_cases e:x≤gN P s∧gN P s<y
  ·rw[if_pos e];exact .inr h.ml
  ·rw[if_neg e];exact h.kp s hs
 ·have hnk:¬gN O' s=k:=fun e=>hnd (.inr ((g3 s hs).1 e))
  rw[hO s hs,if_neg (fun e=>hnk ((hin s hs).2 (by omega)))];exact h.ke s hs (fun e=>hnd (.inl e))
 ·have key:∀s,s<n→(x≤gN P s∧gN P s<y→gN O' s=k):=fun s hs e=>(hin s hs).2 (by omega)
  have a1:=hO' s hs;have a2:=hO' t ht;have i1:=hin s hs;have i2:=hin t ht;have j1:=g3 s hs;have j2:=g3 t ht;have hi:=h.iff s hs t ht;rw[hO s hs,hO t ht];by_cases e1:gN O' s=k
  ·have o1:=j1.1 e1
   have r1:=i1.1 e1;by_cases e2:gN O' t=k
   ·have o2:=j2.1 e2
    have r2:=i2.1 e2;rw[o1,o2];by_cases b1:x≤gN P s∧gN P s<y
    ·rw[if_pos b1]
     by_cases b2:x≤gN P t∧gN P t<y
     ·rw[if_pos b2]
      exact⟨fun _=>⟨rfl,fun _=>by omega⟩,fun _=>rfl⟩
     ·rw[if_neg b2]
      refine⟨fun e=>by omega,fun e=>?_⟩;have:=e.2 (.inr rfl);omega
    ·rw[if_neg b1]
     by_cases b2:x≤gN P t∧gN P t<y
     ·rw[if_pos b2]
      refine⟨fun e=>by omega,fun e=>?_⟩;have:=e.2 (.inr rfl);omega
     ·rw[if_neg b2]
      exact⟨fun _=>⟨rfl,fun _=>by omega⟩,fun _=>by rw[e1,e2]⟩
   ·have o2:¬gN O t=k:=fun e=>e2 (j2.2 e)
    have b2:¬(x≤gN P t∧gN P t<y):=fun e=>e2 (key t ht e)
    rw[if_neg b2];refine⟨fun e=>?_,fun e=>absurd (o1▸e.1).symm o2⟩;by_cases b1:x≤gN P s∧gN P s<y
    ·rw[if_pos b1] at e;omega
    ·rw[if_neg b1,e1] at e;exact absurd e.symm e2
  ·have o1:¬gN O s=k:=fun e=>e1 (j1.2 e)
   have b1:¬(x≤gN P s∧gN P s<y):=fun e=>e1 (key s hs e)
   rw[if_neg b1];by_cases b2:x≤gN P t∧gN P t<y
   ·have e2:=key t ht b2
    rw[if_pos b2];refine⟨fun e=>by omega,fun e=>absurd (e.1.trans (j2.1 e2)) o1⟩
   ·rw[if_neg b2,hi]
    exact⟨fun⟨q1,q2⟩=>⟨q1,fun hh=>q2 (hh.resolve_right o1)⟩,fun⟨q1,q2⟩=>⟨q1,fun hh=>q2 (.inl hh)⟩⟩
end
def Plain (R:List Rm):Prop:=∀k,k<R.length→(gR R k).m=(gR R k).a
theorem CtS.fin {n:Nat} {L P O O':List Nat} {R R':List Rm} {Dn M:Nat→Prop} (h:CtS n L P O R Dn O' R') (h0:PtS n L P O R) (hM:MkS n P O R M) (hD:∀k,k<R.length→(Dn k↔(gR R k).a<(gR R k).m)):
 Plain R'∧(∀s,s<n→gN O' s=gN O s∨R.length≤gN O' s)∧∀s,s<n→∀t,t<n→(gN O' s=gN O' t↔gN O s=gN O t∧(M s↔M t)):=by
 refine⟨fun k hk=>?_,h.kp,fun s hs t ht=>?_⟩
 ·by_cases hl:k<R.length
  ·by_cases hd:Dn k
   ·exact h.fr k hk (.inl hd)
   ·have:=h.un k hl hd
    have h2:=(hD k hl);have h3:=h0.rm k hl;rw[this];have h4:¬(gR R k).a<(gR R k).m:=fun e=>hd (h2.2 e)
    omega
  ·exact h.fr k hk (.inr (by omega))
 ·rw[h.iff s hs t ht,←hM s hs,←hM t ht]
  refine⟨fun⟨e1,e2⟩=>⟨e1,?_⟩,fun⟨e1,e2⟩=>⟨e1,fun _=>e2⟩⟩;by_cases hd:Dn (gN O s)
  ·exact e2 hd
  ·have a1:=h0.os s hs
   have a2:=h0.os t ht;have h4:¬(gR R (gN O s)).a<(gR R (gN O s)).m:=fun e=>hd ((hD _ a1.1).2 e)
   rw[hM s hs,hM t ht,←e1];rw[←e1] at a2;exact⟨fun e=>by omega,fun e=>by omega⟩
def cnt (K:List Nat) (t i:Nat):Nat:=(K.take t).count i
def cum (K:List Nat) (i:Nat):Nat:=K.countP (fun x=>decide (x<i))
theorem qeo (K:List Nat) (i:Nat):cnt K 0 i=0:=by simp[cnt]
theorem qcc {K:List Nat} {t:Nat} (h:t<K.length) (i:Nat):cnt K (t+1) i=cnt K t i+if gN K t=i then 1 else 0:=by
 unfold cnt;rw[List.take_succ_eq_append_getElem h,List.count_append,qah h,List.count_singleton];simp[beq_iff_eq]
theorem cnt_mono {K:List Nat} (i:Nat):∀ {t u:Nat},t≤u→u≤K.length→cnt K t i≤cnt K u i:=fun {t u} h hu=>by
 induction u with
 |zero=>have:t=0:=by omega
        subst this;exact Nat.le_refl _
 |succ u ih=>
  by_cases e:t=u+1
  ·subst e;exact Nat.le_refl _
  ·rw[qcc (by omega)]
   have:=ih (by omega) (by omega);omega
theorem qkt (K:List Nat):cum K 0=0:=by simp[cum]
theorem qc6 (K:List Nat) (i:Nat):cum K (i+1)=cum K i+cnt K K.length i:=by
 unfold cum cnt;rw[List.take_length]
 induction K with
 |nil=>rfl
 |cons x K ih=>
  rw[List.countP_cons,List.countP_cons,List.count_cons,ih];have e1:(x==i)=decide (x=i):=by by_cases e:x=i<;>simp[e]
  rw[e1];simp only[decide_eq_true_eq];by_cases h1:x<i
  ·rw[if_pos (by omega),if_pos h1,if_neg (by omega)];omega
  ·by_cases h2:x=i
   ·rw[if_pos (by omega),if_neg h1,if_pos h2];omega
   ·rw[if_neg (by omega),if_neg h1,if_neg h2];omega
theorem qep (K:List Nat) {i j:Nat} (h:i≤j):cum K i≤cum K j:=by
 induction j with
 |zero=>have:i=0:=by omega
        subst this;exact Nat.le_refl _
 |succ j ih=>
  by_cases e:i=j+1
  ·subst e;exact Nat.le_refl _
  ·rw[qc6];have:=ih (by omega);omega
theorem qix (K:List Nat) (i:Nat):cum K i≤K.length:=List.countP_le_length
def pos (K:List Nat) (t:Nat):Nat:=cum K (gN K t+1)-1-cnt K t (gN K t)
theorem qfi {K:List Nat} {t:Nat} (h:t<K.length):pos K t+cnt K t (gN K t)+1=cum K (gN K t+1)∧cum K (gN K t)≤pos K t:=by
 have h1:=qcc h (gN K t);rw[if_pos rfl] at h1;have h2:=cnt_mono (K:=K) (gN K t) (t:=t+1) (u:=K.length) h (Nat.le_refl _);have h3:=qc6 K (gN K t);unfold pos;omega
theorem qmr {K:List Nat} {t u:Nat} (ht:t<K.length) (hu:u<K.length) (e:pos K t=pos K u):t=u:=by
 have h1:=qfi ht;have h2:=qfi hu;have hk:gN K t=gN K u:=by
  rcases Nat.lt_trichotomy (gN K t) (gN K u) with h|h|h
  ·have:=qep K (show gN K t+1≤gN K u from h);omega
  ·exact h
  ·have:=qep K (show gN K u+1≤gN K t from h);omega
 rw[hk] at h1;have hc:cnt K t (gN K u)=cnt K u (gN K u):=by omega
 rcases Nat.lt_trichotomy t u with h|h|h
 ·have a1:=qcc ht (gN K u)
  rw[if_pos hk] at a1;have:=cnt_mono (K:=K) (gN K u) (t:=t+1) (u:=u) h (by omega);omega
 ·exact h
 ·have a1:=qcc hu (gN K u)
  rw[if_pos rfl] at a1;have:=cnt_mono (K:=K) (gN K u) (t:=u+1) (u:=t) h (by omega);omega
theorem qhj {K:List Nat} (i:Nat):∀(t:Nat),t≤K.length→∀c,c<cnt K t i→∃u,u<t∧gN K u=i∧cnt K u i=c
 |0,_,c,hc=>by rw[qeo] at hc;omega
 |t+1,ht,c,hc=>by
  rw[qcc (by omega)] at hc;by_cases h:c<cnt K t i
  ·obtain⟨u,h1,h2⟩:=qhj i t (by omega) c h
   exact⟨u,by omega,h2⟩
  ·by_cases e:gN K t=i
   ·rw[if_pos e] at hc
    exact⟨t,by omega,e,by omega⟩
   ·rw[if_neg e] at hc;omega
theorem qku {K:List Nat} {i p:Nat} (h1:cum K i≤p) (h2:p<cum K (i+1)):∃t,t<K.length∧gN K t=i∧pos K t=p:=by
 have h3:=qc6 K i;obtain⟨t,a,b,c⟩:=qhj (K:=K) i K.length (Nat.le_refl _) (cum K (i+1)-1-p) (by omega);refine⟨t,a,b,?_⟩;have:=qfi a;rw[b,c] at this;omega
def Cn1 (K:List Nat) (Q t:Nat) (S:List Nat):Prop:=S.length=Q+1∧∀i,i≤Q→gN S i=cnt K t i
theorem Cn1.zero (K:List Nat) (Q:Nat):Cn1 K Q 0 (List.replicate (Q+1) 0):=⟨by simp,fun i hi=>by rw[qeo,qah (by simp;omega)];simp⟩
theorem Cn1.next {K:List Nat} {Q t:Nat} {S:List Nat} (h:Cn1 K Q t S) (ht:t<K.length) (hk:gN K t≤Q):Cn1 K Q (t+1) (S.set (gN K t) (gN S (gN K t)+1)):=by
 refine⟨by rw[List.length_set];exact h.1,fun i hi=>?_⟩;rw[qbw _ (by rw[h.1];omega),qcc ht];by_cases e:i=gN K t
 ·rw[if_pos e,if_pos e.symm,←e,h.2 i hi]
 ·rw[if_neg e,if_neg (fun e2=>e e2.symm),h.2 i hi];rfl
def Cn2 (K:List Nat) (Q j:Nat) (S:List Nat):Prop:=S.length=Q+1∧∀i,i≤Q→gN S i=if i<j then cum K (i+1) else cnt K K.length i
theorem Cn2.start {K:List Nat} {Q:Nat} {S:List Nat} (h:Cn1 K Q K.length S):Cn2 K Q 0 S:=⟨h.1,fun i hi=>by rw[if_neg (by omega)];exact h.2 i hi⟩
theorem Cn2.next {K:List Nat} {Q j:Nat} {S:List Nat} (h:Cn2 K Q j S) (hj:j≤Q):cum K j+gN S j=cum K (j+1)∧Cn2 K Q (j+1) (S.set j (cum K (j+1))):=by
 have h1:=h.2 j hj;rw[if_neg (by omega)] at h1;refine⟨by rw[h1,qc6],by rw[List.length_set];exact h.1,fun i hi=>?_⟩;rw[qbw _ (by rw[h.1];omega)];by_cases e:i=j
 ·rw[if_pos e,if_pos (by omega),e]
 ·rw[if_neg e,h.2 i hi]
  by_cases e2:i<j
  ·rw[if_pos e2,if_pos (by omega)]
  ·rw[if_neg e2,if_neg (by omega)]
structure Cn3 (K:List Nat) (Q w t:Nat) (S F:List Nat):Prop where
 sl:S.length=Q+1
 fl:F.length=K.length
 st:∀i,i≤Q→gN S i+cnt K t i=cum K (i+1)
 fr:∀u,u<t→gN F (pos K u)=u/w
theorem Cn3.start {K:List Nat} {Q w:Nat} {S F:List Nat} (h:Cn2 K Q (Q+1) S) (hF:F.length=K.length):Cn3 K Q w 0 S F:=
 ⟨h.1,hF,fun i hi=>by rw[qeo,h.2 i hi,if_pos (by omega)];rfl,fun u hu=>by omega⟩
theorem Cn3.next {K:List Nat} {Q w t:Nat} {S F:List Nat} (h:Cn3 K Q w t S F) (ht:t<K.length) (hk:gN K t<Q):
 gN S (gN K t)=pos K t+1∧pos K t<F.length∧Cn3 K Q w (t+1) (S.set (gN K t) (pos K t)) (F.set (pos K t) (t/w)):=by
 have h1:=h.st (gN K t) (by omega);have h2:=qfi ht;have h3:=qix K (gN K t+1);have hp:pos K t<F.length:=by rw[h.fl];omega
 refine⟨by omega,hp,by rw[List.length_set];exact h.sl,by rw[List.length_set];exact h.fl,fun i hi=>?_,fun u hu=>?_⟩
 ·rw[qbw _ (by rw[h.sl];omega),qcc ht]
  by_cases e:i=gN K t
  ·rw[if_pos e,if_pos e.symm,e];omega
  ·rw[if_neg e,if_neg (fun e2=>e e2.symm)];exact h.st i hi
 ·rw[qbw _ hp]
  by_cases e:u=t
  ·rw[e,if_pos rfl]
  ·rw[if_neg (fun e2=>e (qmr (by omega) ht e2))]
   exact h.fr u (by omega)
structure BkS (n w:Nat) (NX S F:List Nat):Prop where
 sl:S.length=n*w+1
 fl:F.length=n*w
 le:∀c,c<w→∀tgt,tgt<n→gN S (c*n+tgt)≤gN S (c*n+tgt+1)∧gN S (c*n+tgt+1)≤n*w
 tgt:∀c,c<w→∀tgt,tgt<n→∀p,gN S (c*n+tgt)≤p→p<gN S (c*n+tgt+1)→gN F p<n∧gN NX (gN F p*w+c)=tgt
 on:∀c,c<w→∀s,s<n→∃p,gN S (c*n+gN NX (s*w+c))≤p∧p<gN S (c*n+gN NX (s*w+c)+1)∧gN F p=s
 nd:∀c,c<w→∀tgt,tgt<n→∀p q,gN S (c*n+tgt)≤p→p<gN S (c*n+tgt+1)→gN S (c*n+tgt)≤q→q<gN S (c*n+tgt+1)→gN F p=gN F q→p=q
def keys (n w:Nat) (NX:List Nat):List Nat:=(List.range NX.length).map fun t=>t%w*n+gN NX t
theorem qbc (n w:Nat) (NX:List Nat):(keys n w NX).length=NX.length:=by simp[keys]
theorem qc7 (n w:Nat) (NX:List Nat) {t:Nat} (h:t<NX.length):gN (keys n w NX) t=t%w*n+gN NX t:=by
 rw[qah (by rw[qbc];exact h)];simp[keys]
theorem mulq {n a b x y:Nat} (hx:x<n) (hy:y<n) (e:a*n+x=b*n+y):a=b∧x=y:=by
 have hn:0<n:=by omega
 have h1:(a*n+x)/n=a:=by rw[Nat.mul_comm,Nat.mul_add_div hn,Nat.div_eq_of_lt hx];rfl
 have h2:(b*n+y)/n=b:=by rw[Nat.mul_comm,Nat.mul_add_div hn,Nat.div_eq_of_lt hy];rfl
 have:a=b:=by rw[←h1,←h2,e]
 subst this;exact⟨rfl,by omega⟩
theorem mul_lt {n w c x:Nat} (hc:c<w) (hx:x<n):c*n+x<n*w:=by
 have:=Nat.mul_le_mul_right n (show c+1≤w from hc);rw[Nat.succ_mul,Nat.mul_comm w n] at this;omega
theorem qiy {n w:Nat} {NX:List Nat} (hw:0<w) (hnl:∀t,t<NX.length→gN NX t<n) {t:Nat} (h:t<NX.length):gN (keys n w NX) t<n*w:=by
 rw[qc7 _ _ _ h];exact mul_lt (Nat.mod_lt _ hw) (hnl t h)
theorem Cn3.done {n w:Nat} {NX S F:List Nat} (hw:0<w) (hl:NX.length=n*w) (hnl:∀t,t<NX.length→gN NX t<n) (h:Cn3 (keys n w NX) (n*w) w NX.length S F):BkS n w NX S F:=by
 have hS:∀i,i≤n*w→gN S i=cum (keys n w NX) i:=fun i hi=>by
  have h1:=h.st i hi;have h2:=qc6 (keys n w NX) i;rw[qbc] at h2;omega
 have key:∀c,c<w→∀tgt,tgt<n→∀p,gN S (c*n+tgt)≤p→p<gN S (c*n+tgt+1)→∃t,t<NX.length∧t%w=c∧gN NX t=tgt∧pos (keys n w NX) t=p∧gN F p=t/w:=fun c hc tgt ht p h1 h2=>by
  have:=mul_lt hc ht;rw[hS _ (by omega)] at h1 h2;obtain⟨t,a,b,e⟩:=qku h1 h2;rw[qbc] at a;rw[qc7 _ _ _ a] at b;obtain⟨b1,b2⟩:=mulq (hnl t a) ht b;exact⟨t,a,b1,b2,e,by rw[←e];exact h.fr t a⟩
 refine⟨h.sl,by rw[h.fl,qbc,hl],fun c hc tgt ht=>?_,fun c hc tgt ht p h1 h2=>?_,fun c hc s hs=>?_,fun c hc tgt ht p q h1 h2 h3 h4 e=>?_⟩
 ·have:=mul_lt hc ht
  rw[hS _ (by omega),hS _ (by omega)];have a:=qix (keys n w NX) (c*n+tgt+1);rw[qbc,hl] at a;exact⟨qep _ (by omega),a⟩
 ·obtain⟨t,a,b,e,_,f⟩:=key c hc tgt ht p h1 h2
  have hd:=Nat.div_add_mod t w;rw[Nat.mul_comm,b] at hd;refine⟨?_,by rw[f,hd];exact e⟩;rw[f,Nat.div_lt_iff_lt_mul hw,←hl];exact a
 ·have hat:s*w+c<NX.length:=by
   have:=Nat.mul_le_mul_right w (show s+1≤n from hs);rw[Nat.succ_mul] at this;omega
  have hm:(s*w+c)%w=c:=by rw[Nat.mul_comm,Nat.mul_add_mod,Nat.mod_eq_of_lt hc]
  have hd:(s*w+c)/w=s:=by rw[Nat.mul_comm,Nat.mul_add_div hw,Nat.div_eq_of_lt hc];rfl
  have hx:=hnl _ hat;have hq:=mul_lt hc hx;have hp:=qfi (K:=keys n w NX) (by rw[qbc];exact hat);rw[qc7 _ _ _ hat,hm] at hp;rw[hS _ (by omega),hS _ (by omega)];exact⟨_,hp.2,by omega,by rw[h.fr _ hat,hd]⟩
 ·obtain⟨t,a,b,e1,e2,f⟩:=key c hc tgt ht p h1 h2
  obtain⟨u,a',b',e1',e2',f'⟩:=key c hc tgt ht q h3 h4;have h5:=Nat.div_add_mod t w;have h6:=Nat.div_add_mod u w;rw[b,←f,e,f',←b'] at h5;rw[←e2,←e2']
  congr 1
  omega
def TcS (R:List Rm) (Tc:List Nat):Prop:=(∀k,k∈Tc↔k<R.length∧(gR R k).a<(gR R k).m)∧Tc.Nodup
theorem TcS.start {R:List Rm} (h:Plain R):TcS R []:=⟨fun k=>⟨fun hk=>(by cases hk),fun hk=>by have:=h k hk.1;omega⟩,List.nodup_nil⟩
theorem TcS.more {R:List Rm} {Tc:List Nat} (h:TcS R Tc) {k:Nat} (hk:k<R.length) (hm:¬(gR R k).m=(gR R k).a) (ha:(gR R k).a≤(gR R k).m):TcS (R.set k ⟨(gR R k).a,(gR R k).m+1,(gR R k).e⟩) Tc:=by
 refine⟨fun j=>?_,h.2⟩;rw[h.1,List.length_set,qc5 R hk];by_cases e:j=k
 ·subst e
  rw[if_pos rfl];show _↔_∧(gR R j).a<(gR R j).m+1;omega
 ·rw[if_neg e]
theorem TcS.first {R:List Rm} {Tc:List Nat} (h:TcS R Tc) {k:Nat} (hk:k<R.length) (hm:(gR R k).m=(gR R k).a):TcS (R.set k ⟨(gR R k).a,(gR R k).m+1,(gR R k).e⟩) (Tc++[k]):=by
 have hn:k∉Tc:=fun hh=>by have:=(h.1 k).1 hh;omega
 refine⟨fun j=>?_,?_⟩
 ·rw[List.mem_append,List.mem_singleton,h.1,List.length_set,qc5 R hk]
  by_cases e:j=k
  ·subst e
   rw[if_pos rfl];show _↔_∧(gR R j).a<(gR R j).m+1;omega
  ·rw[if_neg e]
   exact⟨fun hh=>hh.resolve_right e,.inl⟩
 ·rw[List.nodup_append]
  exact⟨h.2,by simp,fun a ha b hb e=>hn (by rw[List.mem_singleton.1 hb] at e;rw[←e];exact ha)⟩
theorem TcS.le {R:List Rm} {Tc:List Nat} (h:TcS R Tc):Tc.length≤R.length:=
 qax R.length Tc.length (gN Tc) (fun i hi=>by rw[qah hi];exact((h.1 _).1 (List.getElem_mem hi)).1) (fun i hi j hj e=>by
  rw[qah hi,qah hj] at e;have hp:=List.pairwise_iff_getElem.1 h.2;rcases Nat.lt_trichotomy i j with h1|h1|h1
  ·exact absurd e (hp i j hi hj h1)
  ·exact h1
  ·exact absurd e.symm (hp j i hj hi h1))
def mrk (n w c:Nat) (NX S F T:List Nat) (i p:Nat) (s:Nat):Prop:=s<n∧((∃j,j<i∧gN NX (s*w+c)=gN T j)∨(gN S (c*n+gN T i)≤gN S (c*n+gN T i)∧∃q,gN S (c*n+gN T i)≤q∧q<p∧q<gN S (c*n+gN T i+1)∧gN F q=s))
section
variable {n w c:Nat} {NX S F T:List Nat}
theorem mrk.new (h:BkS n w NX S F) (hc:c<w) (hT:∀j,j<T.length→gN T j<n) (hd:∀i,i<T.length→∀j,j<T.length→gN T i=gN T j→i=j) {i p:Nat} (hi:i<T.length) (h1:gN S (c*n+gN T i)≤p) (h2:p<gN S (c*n+gN T i+1)):gN F p<n∧¬mrk n w c NX S F T i p (gN F p):=by
 obtain⟨a,b⟩:=h.tgt c hc _ (hT i hi) p h1 h2;refine⟨a,fun⟨_,hh⟩=>?_⟩;rcases hh with⟨j,hj,e⟩|⟨_,q,e1,e2,e3,e4⟩
 ·have:=hd i hi j (by omega) (by rw[←b,e])
  omega
 ·have:=h.nd c hc _ (hT i hi) q p e1 e3 h1 h2 e4
  omega
theorem mrk.next {i p s:Nat} (h1:gN S (c*n+gN T i)≤p) (h2:p<gN S (c*n+gN T i+1)) (hn:gN F p<n):mrk n w c NX S F T i (p+1) s↔(mrk n w c NX S F T i p s∨s=gN F p):=by
 constructor
 ·rintro⟨a,hh|⟨b,q,e1,e2,e3,e4⟩⟩
  ·exact .inl ⟨a,.inl hh⟩
  ·by_cases e:q=p
   ·exact .inr (by rw[←e4,e])
   ·exact .inl ⟨a,.inr ⟨b,q,e1,by omega,e3,e4⟩⟩
 ·rintro(⟨a,hh|⟨b,q,e1,e2,e3,e4⟩⟩|hh)
  ·exact⟨a,.inl hh⟩
  ·exact⟨a,.inr ⟨b,q,e1,by omega,e3,e4⟩⟩
  ·exact⟨by rw[hh];exact hn,.inr ⟨Nat.le_refl _,p,h1,by omega,h2,hh.symm⟩⟩
theorem mrk.row (h:BkS n w NX S F) (hc:c<w) (hT:∀j,j<T.length→gN T j<n) {i s:Nat} (hi:i<T.length):mrk n w c NX S F T i (gN S (c*n+gN T i+1)) s↔(s<n∧∃j,j<i+1∧gN NX (s*w+c)=gN T j):=by
 constructor
 ·rintro⟨a,⟨j,hj,e⟩|⟨_,q,e1,_,e3,e4⟩⟩
  ·exact⟨a,j,by omega,e⟩
  ·exact⟨a,i,by omega,by rw[←e4];exact(h.tgt c hc _ (hT i hi) q e1 e3).2⟩
 ·rintro⟨a,j,hj,e⟩
  by_cases e2:j=i
  ·subst e2
   obtain⟨p,p1,p2,p3⟩:=h.on c hc s a;rw[e] at p1 p2;exact⟨a,.inr ⟨Nat.le_refl _,p,p1,p2,p2,p3⟩⟩
  ·exact⟨a,.inl ⟨j,by omega,e⟩⟩
theorem mrk.begin {i s:Nat}:mrk n w c NX S F T i (gN S (c*n+gN T i)) s↔(s<n∧∃j,j<i∧gN NX (s*w+c)=gN T j):=by
 constructor
 ·rintro⟨a,hh|⟨_,q,e1,e2,_⟩⟩
  ·exact⟨a,hh⟩
  ·omega
 ·rintro⟨a,hh⟩
  exact⟨a,.inl hh⟩
end
theorem MkS.congr {n:Nat} {P O:List Nat} {R:List Rm} {M M':Nat→Prop} (h:MkS n P O R M) (e:∀s,s<n→(M' s↔M s)):MkS n P O R M':=fun s hs=>(e s hs).trans (h s hs)
theorem MkS.plain {n:Nat} {L P O:List Nat} {R:List Rm} (h:PtS n L P O R) (hp:Plain R):MkS n P O R (fun _=>False):=fun s hs=>by
 have h1:=h.os s hs;have:=hp _ h1.1;exact⟨fun hh=>hh.elim,fun hh=>by omega⟩
theorem PtS.alone {n:Nat} {L P O:List Nat} {R:List Rm} (h:PtS n L P O R) (hn:R.length=n):∀s,s<n→∀t,t<n→gN O s=gN O t→s=t:=fun s hs t ht e=>by
 refine Classical.byContradiction fun hne=>?_
 have hf:∀k,k<R.length→gN L (gR R k).a<n∧gN O (gN L (gR R k).a)=k:=fun k hk=>by
  have:=h.rm k hk;exact⟨(h.li _ (by omega)).1,h.ro k hk _ (Nat.le_refl _) (by omega)⟩
 have hk:=(h.os s hs).1;obtain⟨u,hu,hu1,hu2⟩:∃u,u<n∧gN O u=gN O s∧¬u=gN L (gR R (gN O s)).a:=by
  by_cases e1:s=gN L (gR R (gN O s)).a
  ·exact⟨t,ht,e.symm,fun e2=>hne (e1.trans e2.symm)⟩
  ·exact⟨s,hs,rfl,e1⟩
 have:=qax n (n+1) (fun j=>if j<n then gN L (gR R j).a else u) (fun i hi=>by
  show(if i<n then gN L (gR R i).a else u)<n;by_cases e1:i<n
  ·rw[if_pos e1];exact(hf i (by omega)).1
  ·rw[if_neg e1];exact hu) (fun i hi j hj e2=>by
  have e2:(if i<n then gN L (gR R i).a else u)=(if j<n then gN L (gR R j).a else u):=e2;by_cases a:i<n
  ·by_cases b:j<n
   ·rw[if_pos a,if_pos b] at e2
    rw[←(hf i (by omega)).2,←(hf j (by omega)).2,e2]
   ·rw[if_pos a,if_neg b] at e2
    have h1:=(hf i (by omega)).2;rw[e2,hu1] at h1;rw[←h1] at e2;exact absurd e2.symm hu2
  ·by_cases b:j<n
   ·rw[if_neg a,if_pos b] at e2
    have h1:=(hf j (by omega)).2;rw[←e2,hu1] at h1;rw[←h1] at e2;exact absurd e2 hu2
   ·omega)
 omega
abbrev By:=List UInt8
def tkL (least:Nat):By→Except By (UInt8×By)
 |[]=>.error []
 |c::t=>if least≤c.toNat∧c.toNat≤126 then .ok (c,t) else .error (c::t)
structure Pc where
 kind:Int
 b:Int
 no:Bool
 set:List Spn
def Rp (p:Pc):Prop:=(p.kind=1∧32≤p.b∧p.b≤126∧p.no=false∧p.set=[])∨((p.kind=2∨p.kind=4∨p.kind=5)∧p.b=0∧p.no=false∧p.set=[])∨(p.kind=3∧p.b=0∧qcu p.set∧p.set≠[]∧∀s∈p.set,32≤s.1∧s.2≤126)
end Go.Proofs.YtdgoilkgplnhfaaGreat

