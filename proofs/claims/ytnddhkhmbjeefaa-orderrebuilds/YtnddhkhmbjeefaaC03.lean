/-
  Rows of numbers as runs: each row one list of runs, and no two rows the same one. In pure words; of no program: no condition.
-/
import Derived.Test.YtnddhkhmbjeefaaC02
import Derived.Laws.OwnMore
namespace Go.Proofs.Ytnddhkhmbjeefaa
open Go.RowKit
abbrev Rn:=Int×Int
def joinR:List Rn→Int→Int→List Rn
 |[],e,t=>[(e,t)]
 |[x],e,t=>if x.2=t then [(e,t)] else [x,(e,t)]
 |x::y::l,e,t=>x::joinR (y::l) e t
theorem joinR_snoc:∀(l:List Rn) (x:Rn) (e t:Int),joinR (l++[x]) e t=if x.2=t then l++[(e,t)] else l++[x,(e,t)]
 |[],x,e,t=>by simp[joinR]
 |[a],x,e,t=>by
  show a::joinR [x] e t=_
  simp only[joinR]
  split<;>simp
 |a::b::l,x,e,t=>by
  show a::joinR (b::l++[x]) e t=_
  rw[joinR_snoc (b::l) x e t]
  split<;>simp
theorem joinR_ne (l:List Rn) (e t:Int):joinR l e t≠[]:=by
 rcases List.eq_nil_or_concat l with rfl|⟨l,x,rfl⟩
 ·simp[joinR]
 ·rw[List.concat_eq_append,joinR_snoc];split<;>simp
def rlN (f:Nat→Int):Nat→List Rn
 |0=>[]
 |n+1=>joinR (rlN f n) ((n:Int)+1) (f n)
def goR:List Rn→Int→Int
 |[],_=>0
 |x::l,c=>if c<x.1 then x.2 else goR l c
variable {f g:Nat→Int} {n m:Nat}
theorem rlN_last (f:Nat→Int) (n:Nat):∃l,rlN f (n+1)=l++[((n:Int)+1,f n)]:=by
 unfold rlN
 rcases List.eq_nil_or_concat (rlN f n) with h|⟨l,x,h⟩
 ·rw[h];exact⟨[],rfl⟩
 ·rw[h,List.concat_eq_append,joinR_snoc]
  split
  ·exact⟨l,rfl⟩
  ·exact⟨l++[x],by simp⟩
theorem joinR_join (l:List Rn) (e e' t:Int):joinR (joinR l e t) e' t=joinR l e' t:=by
 rcases List.eq_nil_or_concat l with rfl|⟨l,x,rfl⟩
 ·simp[joinR]
 ·rw[List.concat_eq_append,joinR_snoc,joinR_snoc]
  split
  ·rw[joinR_snoc,if_pos rfl]
  ·rw[show l++[x,(e,t)]=(l++[x])++[(e,t)] by simp,joinR_snoc,if_pos rfl];simp
theorem rlN_jump:∀k,(∀j,m≤j→j<m+k+1→f j=f m)→rlN f (m+k+1)=joinR (rlN f m) ((m:Int)+k+1) (f m)
 |0,_=>by rw[rlN];simp
 |k+1,h=>by
  rw[rlN,show m+(k+1)=m+k+1 by omega,rlN_jump k (fun j h1 h2=>h j h1 (by omega)),h (m+k+1) (by omega) (by omega),joinR_join]
  congr 1
theorem rlN_jump' (h0:m<n) (h:∀j,m≤j→j<n→f j=f m):rlN f n=joinR (rlN f m) (n:Int) (f m):=by
 obtain⟨k,rfl⟩:∃k,n=m+k+1:=⟨n-m-1,by omega⟩
 rw[rlN_jump k h]
 congr 1
theorem rlN_congr:∀n,(∀j,j<n→f j=g j)→rlN f n=rlN g n
 |0,_=>rfl
 |n+1,h=>by rw[rlN,rlN,rlN_congr n (fun j hj=>h j (by omega)),h n (by omega)]
theorem rlN_ends (f:Nat→Int):∀n,∀x∈rlN f n,1≤x.1∧x.1≤(n:Int)
 |0,x,h=>by simp[rlN] at h
 |n+1,x,h=>by
  have ih:=rlN_ends f n
  unfold rlN at h
  rcases List.eq_nil_or_concat (rlN f n) with h0|⟨l,y,h0⟩
  ·rw[h0] at h
   simp[joinR] at h
   subst h
   push_cast
   exact⟨by omega,by omega⟩
  ·rw[h0,List.concat_eq_append,joinR_snoc] at h
   rw[h0,List.concat_eq_append] at ih
   have key:x∈l++[y]∨x=((n:Int)+1,f n):=by
    split at h
    ·rcases List.mem_append.1 h with h|h
     ·exact .inl (List.mem_append_left _ h)
     ·exact .inr (by simpa using h)
    ·rcases List.mem_append.1 h with h|h
     ·exact .inl (List.mem_append_left _ h)
     ·simp only[List.mem_cons,List.not_mem_nil,or_false] at h
      rcases h with rfl|h
      ·exact .inl (List.mem_append_right _ (List.mem_singleton.2 rfl))
      ·exact .inr h
   rcases key with h|rfl
   ·have:=ih x h
    push_cast
    exact⟨this.1,by omega⟩
   ·push_cast
    exact⟨by show(1:Int)≤(n:Int)+1;omega,by show(n:Int)+1≤(n:Int)+1;omega⟩
theorem goR_app:∀(l l':List Rn) (c:Int),(∃x∈l,c<x.1)→goR (l++l') c=goR l c
 |[],_,_,⟨x,h,_⟩=>by simp at h
 |y::l,l',c,⟨x,hx,hc⟩=>by
  rw[List.cons_append,goR,goR]
  split
  ·rfl
  ·rcases List.mem_cons.1 hx with rfl|hx
   ·contradiction
   ·exact goR_app l l' c ⟨x,hx,hc⟩
theorem goR_skip:∀(l l':List Rn) (c:Int),(∀x∈l,x.1≤c)→goR (l++l') c=goR l' c
 |[],_,_,_=>rfl
 |y::l,l',c,h=>by
  rw[List.cons_append,goR,if_neg (by have:=h y (by simp);omega)]
  exact goR_skip l l' c (fun x hx=>h x (by simp[hx]))
theorem goR_rlN (f:Nat→Int):∀n c,c<n→goR (rlN f n) (c:Int)=f c
 |0,c,h=>by omega
 |n+1,c,h=>by
  have ih:=goR_rlN f n
  cases n with
  |zero=>
   have:c=0:=by omega
   subst this
   simp[rlN,joinR,goR]
  |succ n=>
   obtain⟨l,e⟩:=rlN_last f n
   have he:=rlN_ends f (n+1)
   have hl:∀x∈l,x.1≤((n:Int)+1):=fun x hx=>by have:=(he x (by rw[e];simp[hx])).2;push_cast at this;exact this
   rw[e] at ih
   rw[rlN,e,joinR_snoc]
   by_cases h1:c<n+1
   ·have ihc:=ih c h1
    split
    ·rename_i e0
     by_cases hx:∃x∈l,(c:Int)<x.1
     ·rw[goR_app _ _ _ hx] at ihc ⊢;exact ihc
     ·have hx':∀x∈l,x.1≤(c:Int):=fun x hx1=>by
       by_cases h2:(c:Int)<x.1
       ·exact absurd ⟨x,hx1,h2⟩ hx
       ·omega
      rw[goR_skip _ _ _ hx'] at ihc ⊢
      simp only[goR] at ihc ⊢
      rw[if_pos (by omega)] at ihc
      rw[if_pos (by push_cast;omega),←ihc]
      exact e0.symm
    ·rw[show l++[((n:Int)+1,f n),(((n+1:Nat):Int)+1,f (n+1))]=(l++[((n:Int)+1,f n)])++[(((n+1:Nat):Int)+1,f (n+1))] by simp,goR_app _ _ _ ⟨_,List.mem_append_right _ (List.mem_singleton.2 rfl),by show(c:Int)<(n:Int)+1;omega⟩]
     exact ihc
   ·have hc:c=n+1:=by omega
    subst hc
    have hl2:∀x∈l,x.1≤((n+1:Nat):Int):=fun x hx=>by have:=hl x hx;push_cast;omega
    split
    ·rw[goR_skip _ _ _ hl2];simp only[goR];rw[if_pos (by push_cast;omega)]
    ·rw[goR_skip _ _ _ hl2]
     simp only[goR]
     rw[if_neg (by push_cast;omega),if_pos (by push_cast;omega)]
theorem rlN_inj (h:rlN f n=rlN g n) {c:Nat} (hc:c<n):f c=g c:=by rw[←goR_rlN f n c hc,←goR_rlN g n c hc,h]
theorem rlN_const (h:∀j,j<n→f j=f 0) (h0:0<n):rlN f n=[((n:Int),f 0)]:=by
 rw[rlN_jump' h0 (fun j _ hj=>h j hj),rlN,joinR]
theorem rlN_one {x:Rn} (h:rlN f n=[x]):∀j,j<n→f j=x.2:=fun j hj=>by
 rw[←goR_rlN f n j hj,h]
 have hx:=rlN_last f (n-1)
 obtain⟨l,e⟩:=hx
 rw[show n-1+1=n by omega,h] at e
 have e1:x.1=(n:Int):=by
  have:=congrArg List.getLast? e
  simp at this
  rw[this]
  show((n-1:Nat):Int)+1=n
  omega
 simp only[goR]
 rw[if_pos (by omega)]
def loR (r:List Rn) (j:Nat):Int:=if j=0 then 0 else(r.getD (j-1) (0,0)).1
theorem loR_app {l m:List Rn} {j:Nat} (h:j≤l.length):loR (l++m) j=loR l j:=by
 unfold loR
 by_cases h0:j=0
 ·rw[if_pos h0,if_pos h0]
 ·rw[if_neg h0,if_neg h0]
  simp only[List.getD_eq_getElem?_getD]
  rw[List.getElem?_append_left (by omega)]
theorem loR_zero (r:List Rn):loR r 0=0:=rfl
theorem loR_succ {r:List Rn} {j:Nat} (h:j<r.length):loR r (j+1)=(r[j]).1:=by
 unfold loR
 rw[if_neg (by omega),Nat.add_sub_cancel,List.getD_eq_getElem?_getD,List.getElem?_eq_getElem h]
 rfl
structure RunsOk (g:Nat→Int) (n:Nat) (r:List Rn):Prop where
 last:loR r r.length=(n:Int)
 each:∀j (h:j<r.length),0≤loR r j∧loR r j<(r[j]).1∧(r[j]).1≤(n:Int)∧∀c:Nat,loR r j≤(c:Int)→(c:Int)<(r[j]).1→g c=(r[j]).2
theorem runs_ok (g:Nat→Int):∀n,RunsOk g n (rlN g n)
 |0=>⟨rfl,fun j h=>by simp[rlN] at h⟩
 |n+1=>by
  have ih:=runs_ok g n
  unfold rlN
  rcases List.eq_nil_or_concat (rlN g n) with h|⟨l,x,h⟩
  ·rw[h] at ih ⊢
   have h0:(0:Int)=(n:Int):=ih.last
   have hn:n=0:=by omega
   subst hn
   refine⟨by simp[joinR,loR],fun j hj=>?_⟩
   simp only[joinR,List.length_singleton] at hj
   have:j=0:=by omega
   subst this
   simp only[joinR,loR_zero,List.getElem_cons_zero]
   refine⟨by omega,by omega,by omega,fun c _ h2=>?_⟩
   have:c=0:=by omega
   rw[this]
  ·rw[h,List.concat_eq_append] at ih
   rw[h,List.concat_eq_append,joinR_snoc]
   have hx:x.1=(n:Int):=by
    have:=ih.last
    rw[List.length_append,List.length_singleton,loR_succ (by simp)] at this
    simpa using this
   have el:=ih.each l.length (by simp)
   rw[loR_app (Nat.le_refl _),List.getElem_append_right (Nat.le_refl _)] at el
   simp only[Nat.sub_self,List.getElem_cons_zero] at el
   have eo:∀j (hj:j<l.length),0≤loR l j∧loR l j<(l[j]).1∧(l[j]).1≤(n:Int)∧∀c:Nat,loR l j≤(c:Int)→(c:Int)<(l[j]).1→g c=(l[j]).2:=fun j hj=>by
    have:=ih.each j (by simp;omega)
    rw[loR_app (by omega),List.getElem_append_left hj] at this
    exact this
   split
   ·rename_i hg
    refine⟨?_,fun j hj=>?_⟩
    ·rw[List.length_append,List.length_singleton,loR_succ (by simp)]
     simp
    ·rw[List.length_append,List.length_singleton] at hj
     rw[loR_app (by omega)]
     by_cases hjl:j<l.length
     ·rw[List.getElem_append_left hjl]
      obtain⟨h1,h2,h3,h4⟩:=eo j hjl
      exact⟨h1,h2,by push_cast;omega,h4⟩
     ·have:j=l.length:=by omega
      subst this
      rw[List.getElem_append_right (Nat.le_refl _)]
      simp only[Nat.sub_self,List.getElem_cons_zero]
      refine⟨el.1,by have:=el.2.1;omega,by push_cast;omega,fun c h1 h2=>?_⟩
      by_cases hc:c<n
      ·rw[←hg];exact el.2.2.2 c h1 (by omega)
      ·have:c=n:=by omega
       rw[this]
   ·refine⟨?_,fun j hj=>?_⟩
    ·rw[show l++[x,((n:Int)+1,g n)]=(l++[x])++[((n:Int)+1,g n)] by simp,List.length_append,List.length_singleton,loR_succ (by simp)]
     simp
    ·by_cases hjl:j<l.length
     ·rw[loR_app (by omega),List.getElem_append_left hjl]
      obtain⟨h1,h2,h3,h4⟩:=eo j hjl
      exact⟨h1,h2,by push_cast;omega,h4⟩
     ·by_cases hj2:j=l.length
      ·subst hj2
       rw[loR_app (Nat.le_refl _),List.getElem_append_right (Nat.le_refl _)]
       simp only[Nat.sub_self,List.getElem_cons_zero]
       exact⟨el.1,el.2.1,by push_cast;omega,el.2.2.2⟩
      ·have:j=l.length+1:=by
        simp only[List.length_append,List.length_cons,List.length_nil] at hj
        omega
       subst this
       have e1:loR (l++[x,((n:Int)+1,g n)]) (l.length+1)=(n:Int):=by
        rw[loR_succ (by simp),List.getElem_append_right (Nat.le_refl _)]
        simpa using hx
       have e2:(l++[x,((n:Int)+1,g n)])[l.length+1]'(by simp)=((n:Int)+1,g n):=by
        rw[List.getElem_append_right (by omega)]
        simp
       rw[e1,e2]
       refine⟨by omega,by show(n:Int)<(n:Int)+1;omega,by push_cast;exact Int.le_refl _,fun c h1 h2=>?_⟩
       have h2':(c:Int)<(n:Int)+1:=h2
       have:c=n:=by omega
       rw[this]
def runIx:List Rn→Int→Nat
 |[],_=>0
 |x::l,a=>if a<x.1 then 0 else runIx l a+1
theorem runIx_at:∀(r:List Rn) (k:Nat) (h:k<r.length) (a:Int),(∀i (hi:i<k),(r[i]).1≤a)→a<(r[k]).1→runIx r a=k
 |x::l,0,_,a,_,h2=>by rw[runIx];exact if_pos h2
 |x::l,k+1,h,a,h1,h2=>by
  have:=h1 0 (by omega)
  simp only[List.getElem_cons_zero] at this
  rw[runIx,if_neg (by omega),runIx_at l k (by simpa using h) a (fun i hi=>by simpa using h1 (i+1) (by omega)) (by simpa using h2)]
section
variable {g:Nat→Int} {n:Nat} {r:List Rn}
theorem RunsOk.up (h:RunsOk g n r) {k:Nat} (hk:k<r.length):∀ {i:Nat} (hi:i<k),(r[i]'(by omega)).1≤loR r k:=by
 intro i hi
 induction k with
 |zero=>omega
 |succ k ih=>
  have e:=loR_succ (r:=r) (j:=k) (by omega)
  rw[e]
  by_cases hik:i=k
  ·subst hik;exact Int.le_refl _
  ·have h1:=ih (by omega) (by omega)
   have h2:=(h.each k (by omega)).2.1
   omega
theorem RunsOk.ix (h:RunsOk g n r) {k:Nat} (hk:k<r.length) {a:Int} (h1:loR r k≤a) (h2:a<(r[k]).1):runIx r a=k:=
 runIx_at r k hk a (fun i hi=>by have:=h.up hk hi;omega) h2
theorem RunsOk.ex (h:RunsOk g n r) {a:Nat} (ha:a<n):∃k,∃hk:k<r.length,loR r k≤(a:Int)∧(a:Int)<(r[k]).1:=by
 have key:∀k,k≤r.length→(∃j,∃hj:j<r.length,loR r j≤(a:Int)∧(a:Int)<(r[j]).1)∨loR r k≤(a:Int):=by
  intro k
  induction k with
  |zero=>intro _;exact .inr (by rw[loR_zero];omega)
  |succ k ih=>
   intro hk
   rcases ih (by omega) with h1|h1
   ·exact .inl h1
   ·by_cases h2:(a:Int)<(r[k]).1
    ·exact .inl ⟨k,by omega,h1,h2⟩
    ·exact .inr (by rw[loR_succ (by omega)];omega)
 rcases key r.length (Nat.le_refl _) with h1|h1
 ·exact h1
 ·rw[h.last] at h1;omega
theorem RunsOk.ix_lt (h:RunsOk g n r) {a:Nat} (ha:a<n):∃hk:runIx r (a:Int)<r.length,g a=(r[runIx r (a:Int)]).2:=by
 obtain⟨k,hk,h1,h2⟩:=h.ex ha
 have e:=h.ix hk h1 h2
 refine⟨by omega,?_⟩
 have:=(h.each k hk).2.2.2 a h1 h2
 rw[this]
 congr 2
 exact e.symm
theorem RunsOk.col (h:RunsOk g n r) {G:Nat→Int} {v:Int} {k:Nat} (hk:k<r.length) (hG:∀a:Nat,loR r k≤(a:Int)→(a:Int)<(r[k]).1→G a=v):joinR (rlN G (loR r k).toNat) (r[k]).1 v=rlN G (loR r (k+1)).toNat:=by
 obtain⟨h0,h1,h2,_⟩:=h.each k hk
 rw[loR_succ hk]
 have e:=rlN_jump' (f:=G) (m:=(loR r k).toNat) (n:=(r[k]).1.toNat) (by omega) (fun j h3 h4=>by
  rw[hG j (by omega) (by omega),hG (loR r k).toNat (by omega) (by omega)])
 rw[e,hG (loR r k).toNat (by omega) (by omega)]
 congr 1
 omega
end
def plc {α:Type} [DecidableEq α] (L:List α) (x:α):List α:=if x∈L then L else L++[x]
theorem plc_ext {α:Type} [DecidableEq α] (L:List α) (x:α):∃U,plc L x=L++U∧∀y∈U,y=x:=by
 unfold plc
 split
 ·exact⟨[],by simp,by simp⟩
 ·exact⟨[x],rfl,by simp⟩
theorem plc_nodup {α:Type} [DecidableEq α] {L:List α} (h:L.Nodup) (x:α):(plc L x).Nodup:=by
 unfold plc
 split
 ·exact h
 ·rename_i hn
  rw[List.nodup_append]
  refine⟨h,List.nodup_cons.2 ⟨by simp,List.nodup_nil⟩,fun a ha b hb e=>?_⟩
  rw[List.mem_singleton.1 hb] at e
  subst e
  exact hn ha
theorem plc_mem {α:Type} [DecidableEq α] (L:List α) (x:α):x∈plc L x:=by
 unfold plc
 split
 ·assumption
 ·simp
end Go.Proofs.Ytnddhkhmbjeefaa
namespace Go.Proofs.Ytnddhkhmbjeefaa
open Go.RowKit Go.Lib
theorem Try.info134:(Try.prog.info? 134).map (fun i=>(i.zero,i.size,i.bytes))=some (some (.agg #[.int .i32 0,.int .i32 0]),2,8):=by kernel_rfl
def rnC (r:List Rn):List Value:=r.flatMap fun x=>[.int .i32 x.1,.int .i32 x.2]
theorem rnC_length:∀r:List Rn,(rnC r).length=r.length*2
 |[]=>rfl
 |x::r=>by
  have:=rnC_length r
  simp only[rnC,List.flatMap_cons,List.length_append,List.length_cons,List.length_nil] at *
  omega
theorem rnC_append (r t:List Rn):rnC (r++t)=rnC r++rnC t:=by simp[rnC]
theorem rnC_get:∀(r:List Rn) (i:Nat) (h:i<r.length),(rnC r)[i*2]? =some (.int .i32 (r[i]).1)∧(rnC r)[i*2+1]? =some (.int .i32 (r[i]).2)
 |x::r,0,_=>by simp[rnC]
 |x::r,i+1,h=>by
  have h':i<r.length:=by simpa using h
  have:=rnC_get r i h'
  simp only[rnC,List.flatMap_cons] at *
  rw[Nat.succ_mul]
  simpa using this
theorem rnC_one (r:List Rn):∀u∈rnC r,u.oneCell'=true:=fun u hu=>by
 obtain⟨x,_,h⟩:=List.mem_flatMap.1 hu
 simp at h
 rcases h with rfl|rfl<;>simp[Value.oneCell']
def RwB (w:World) (b:Nat) (r:List Rn):Prop:=∃cs,w.heap[b]? =some (.cells cs 134 (0,0))∧∀i (h:i<r.length),cs[i*2]? =some (.int .i32 (r[i]).1)∧cs[i*2+1]? =some (.int .i32 (r[i]).2)
section
variable {w w':World} {b:Nat} {r:List Rn} {F:Nat→Prop}
theorem RwB.lt (h:RwB w b r):b<w.heap.size:=by
 obtain⟨cs,h1,_⟩:=h
 exact lt_of_block h1
theorem RwB.congr (h:RwB w b r) (e:w'.heap[b]? =w.heap[b]?):RwB w' b r:=by
 obtain⟨cs,h1,h2⟩:=h
 exact⟨cs,e.trans h1,h2⟩
theorem RwB.kept (h:RwB w b r) (hk:Kept F w w') (hF:¬F b):RwB w' b r:=h.congr (hk.block b h.lt hF)
theorem RwB.below (h:RwB w b r) (hb:Below w.heap.size w w'):RwB w' b r:=h.congr (hb.block b h.lt)
theorem RwB.belowN {n:Nat} (h:RwB w b r) (hb:Below n w w') (hn:b<n):RwB w' b r:=h.congr (hb.block b hn)
theorem RwB.cell (h:RwB w b r) {i:Nat} (hi:i<r.length):w.cell? ⟨b,i*2,none⟩=some (.int .i32 (r[i]).1)∧w.cell? ⟨b,i*2+1,none⟩=some (.int .i32 (r[i]).2):=by
 obtain⟨cs,h1,h2⟩:=h
 rw[cell_of_row w b _ _ _ _ h1,cell_of_row w b _ _ _ _ h1]
 exact h2 i hi
theorem RwB.cells (h:RwB w b r):∀j u,(rnC r)[j]? =some u→w.cell? ((⟨b,0,none⟩:Addr).add j)=some u:=fun j u hu=>by
 have hj:j<r.length*2:=by
  rw[←rnC_length]
  rcases Nat.lt_or_ge j (rnC r).length with h1|h1
  ·exact h1
  ·rw[List.getElem?_eq_none h1] at hu;cases hu
 rw[addr_add,Nat.zero_add]
 have hi:j/2<r.length:=by omega
 obtain⟨c1,c2⟩:=h.cell hi
 obtain⟨g1,g2⟩:=rnC_get r (j/2) hi
 rcases (by omega:j=j/2*2∨j=j/2*2+1) with e|e
 ·rw[←e] at c1 g1
  rw[c1,←g1,hu]
 ·rw[←e] at c2 g2
  rw[c2,←g2,hu]
theorem RwB.of_own {base:Nat} {v:Value} (h:w.ownsRow base 134 2 v r.length (rnC r)) (h0:0<r.length):∃g cap,v=.slice (some ⟨g,0,none⟩) r.length cap∧base≤g∧RwB w g r∧r.length≤cap∧cap≤maxLen:=by
 rcases h.2 with⟨_,h2⟩|⟨g,cap,cur,rfl,hb,hg,h1,h2,h3,h4⟩
 ·omega
 ·refine⟨g,cap,rfl,hb,⟨cur,hg,fun i hi=>?_⟩,h1,h2⟩
  obtain⟨g1,g2⟩:=rnC_get r i hi
  rw[←g1,←g2,←h4]
  constructor
  ·rw[List.getElem?_take_of_lt (by omega),Array.getElem?_toList]
  ·rw[List.getElem?_take_of_lt (by omega),Array.getElem?_toList]
end
theorem rnC_join_last (l:List Rn) (x:Rn) (e:Int):rnC (l++[(e,x.2)])=(rnC (l++[x])).set (l.length*2) (.int .i32 e):=by
 rw[rnC_append,rnC_append,←rnC_length l,List.set_append_right _ _ (Nat.le_refl _),Nat.sub_self]
 rfl
def GrowAt (w w':World) (v v':Value):Prop:=Kept (fun k=>v.ownBlock=some k) w w'∧∀k,v'.ownBlock=some k→v.ownBlock=some k∨w.heap.size≤k
theorem appG {w w':World} {v v':Value} (h:AppAt w w' v v'):GrowAt w w' v v':=by
 refine⟨appK h,fun k hk=>?_⟩
 rcases h with⟨g,a,b,c⟩|⟨a,b⟩
 ·rw[b] at hk;exact .inl (a.trans hk)
 ·exact .inr (b k hk)
theorem own_stored {w:World} {base e size n g cap:Nat} {xs:List Value} (h:w.ownsRow base e size (.slice (some ⟨g,0,none⟩) n cap) n xs) (j:Nat) (u:Value):(w.setCell ⟨g,j,none⟩ u).ownsRow base e size (.slice (some ⟨g,0,none⟩) n cap) n (xs.set j u):=(World.ownsRow.stored h j u).1
theorem GrowAt.ahead {w w1 w':World} {v v':Value} (x:Below w.heap.size w w1) (h:GrowAt w1 w' v v'):GrowAt w w' v v':=
 ⟨(Kept.of_below x).trans_new h.1 (fun _ _ h=>h),fun k hk=>(h.2 k hk).imp id (fun h=>Nat.le_trans x.size h)⟩
set_option maxRecDepth 100000 in
set_option maxHeartbeats 2000000 in
theorem join_any {w:World} {base:Nat} {v:Value} {r:List Rn} (e t:Int) (ho:w.ownsRow base 134 2 v r.length (rnC r)) (hl:r.length≤65536) (hb:base≤w.heap.size):
 Calls Try.prog 73 #[v,.int .i32 e,.int .i32 t] w fun en w'=>∃v',en=.returned v'∧w'.ownsRow base 134 2 v' (joinR r e t).length (rnC (joinR r e t))∧GrowAt w w' v v':=by
 obtain⟨i5,hi5,hz50,hz51,hz52⟩:=info_parts Try.info134
 obtain⟨ao,cap,hv,hp⟩:=own_shape ho
 rcases List.eq_nil_or_concat r with h|⟨l,x,h⟩
 ·subst h
  subst hv
  have HO:=hide ho
  clear ho hp
  go_enter Try.func73,Try.ntmps73
  go_wp2_with (at_builtin;refine wpList_append_view rfl (.tmp 28) (.tmp 32) 102 rfl base 134 i5 (.agg #[.int .i32 0,.int .i32 0]) 2 8 Try.underlying102 hi5 hz50 hz51 hz52 rfl (by decide) _ 0 [] rfl (own_below HO.out (al (Below.refl _ _) _)) ⟨w.heap.size,0,none⟩ 1 1 [.int .i32 e,.int .i32 t] rfl rfl (two_new w _ _ _) (by simp[Value.oneCell']) (by decide) (by unfold maxLen;omega) (by omega) (Nat.le_trans hb (al (Below.refl _ w) _).size) ?_;intro v4 w4 h1 h2;have H1:=hide h1;have H2:=hide h2;clear h1 h2)
  go_ret
  exact⟨v4,rfl,H1.out,(appG H2.out).ahead (al (Below.refl _ _) _)⟩
 ·rw[List.concat_eq_append] at h
  subst h
  obtain⟨g,rfl⟩:=hp (by simp)
  subst hv
  have HO:=hide ho
  have hn:(l++[x]).length=l.length+1:=by simp
  rw[hn] at HO hl ⊢
  have hx:=rnC_get (l++[x]) l.length (by simp)
  rw[List.getElem_append_right (Nat.le_refl _)] at hx
  simp only[Nat.sub_self,List.getElem_cons_zero] at hx
  have c1:=(World.ownsRow.cellAt HO.out (l.length*2+1) (by omega)).trans hx.2
  have HJ:Hid (joinR (l++[x]) e t=if x.2=t then l++[(e,t)] else l++[x,(e,t)]):=joinR_snoc l x e t
  have f1:=World.ownsRow.frozenAt HO.out (l.length*2)
  have e1:IntKind.i64.wrap ((l.length:Int)+1-1)=(l.length:Int):=by simp[IntKind.wrap,IntKind.bits,IntKind.signed];omega
  have h0:(0:Int)≤(l.length:Int):=by omega
  have hlt:(l.length:Int)<(l.length:Int)+1:=by omega
  have c0:=(World.ownsRow.cellAt HO.out (l.length*2) (by omega)).trans hx.1
  clear ho hp hn hx
  by_cases hxt:x.2=t
  ·have HX:=hide hxt
   subst hxt
   have HW:=hide (own_stored HO.out (l.length*2) (.int .i32 e))
   have HC:=hide (rnC_join_last l x e)
   have HN:Hid ((l++[(e,x.2)]).length=l.length+1):=by unfold Hid;simp
   have HJ2:Hid (joinR (l++[x]) e x.2=l++[(e,x.2)]):=by unfold Hid;rw[HJ.out,if_pos rfl]
   clear HJ
   generalize l.length=n at *
   go_enter Try.func73,Try.ntmps73
   go_wp2
   go_ret
   refine⟨_,rfl,?_,(Kept.refl (fun k=>(Value.slice (some ⟨g,0,none⟩) (n+1) cap).ownBlock=some k) w).setCell (p:=⟨g,n*2,none⟩) rfl _,fun k hk=>.inl hk⟩
   rw[HJ2.out,HN.out,HC.out]
   exact HW.out
  ·have HX:Hid (joinR (l++[x]) e t=l++[x]++[(e,t)]):=by unfold Hid;rw[HJ.out,if_neg hxt];simp
   have HC:Hid (rnC (l++[x]++[(e,t)])=rnC (l++[x])++[.int .i32 e,.int .i32 t]):=by unfold Hid;rw[rnC_append];rfl
   have HN:Hid ((l++[x]++[(e,t)]).length=l.length+1+1):=by unfold Hid;simp
   have hxt':¬t=x.2:=fun h=>hxt h.symm
   generalize l.length=n at *
   clear HJ f1 c0
   go_enter Try.func73,Try.ntmps73
   go_wp2_with (at_builtin;refine wpList_append_view rfl (.tmp 28) (.tmp 32) 102 rfl base 134 i5 (.agg #[.int .i32 0,.int .i32 0]) 2 8 Try.underlying102 hi5 hz50 hz51 hz52 rfl (by decide) _ (n+1) (rnC (l++[x])) rfl (own_below HO.out (al (Below.refl _ _) _)) ⟨w.heap.size,0,none⟩ 1 1 [.int .i32 e,.int .i32 t] rfl rfl (two_new w _ _ _) (by simp[Value.oneCell']) (by decide) (by unfold maxLen;omega) (by omega) (Nat.le_trans hb (al (Below.refl _ w) _).size) ?_;intro v4 w4 h1 h2;have H1:=hide h1;have H2:=hide h2;clear h1 h2)
   go_ret
   refine⟨v4,rfl,?_,(appG H2.out).ahead (al (Below.refl _ _) _)⟩
   rw[HX.out,HN.out,HC.out]
   exact H1.out
set_option maxRecDepth 100000 in
set_option maxHeartbeats 1000000 in
theorem cloneR_any (b cap:Nat) (r:List Rn) (w:World) (hl:r.length≤65536) (h0:0<r.length) (hat:RwB w b r):
 Calls Try.prog 92 #[.slice (some ⟨b,0,none⟩) r.length cap] w fun e w'=>(∃g c,e=.returned (.slice (some ⟨g,0,none⟩) r.length c)∧RwB w' g r∧w.heap.size≤g∧r.length≤c∧c≤maxLen)∧Below w.heap.size w w':=by
 obtain⟨i3,hi3,hz30,hz31,hz32⟩:=info_parts Try.info134
 have hnil:=fun(a:Option Addr) (n c:Nat) (W:World)=>run_eql_slice_nil (P:=Try.prog) W 102 134 a n c 0 0 Try.underlying102
 have hb1:Below w.heap.size w (w.alloc (.cells #[] 134)):=(Below.refl _ _).alloc (Nat.le_refl _) _
 have HN:=hide (hat.below hb1).cells
 have HO:Hid ((w.alloc (.cells #[] 134)).ownsRow w.heap.size 134 2 (.slice (some ⟨w.heap.size,0,none⟩) 0 0) 0 []):=⟨rfl,.inr ⟨w.heap.size,0,#[],rfl,Nat.le_refl _,by show(w.heap.push _)[_]? =_;simp,Nat.le_refl _,by decide,rfl,rfl⟩⟩
 have HB:=hide hb1
 have HL:Hid ((rnC r).length=r.length*2):=rnC_length r
 have H0:=hide h0
 clear hat hb1 h0
 go_enter Try.func92,Try.ntmps92
 go_wp2_with (at_builtin;refine wpList_append_view rfl (.tmp 5) (.tmp 6) 102 rfl w.heap.size 134 i3 (.agg #[.int .i32 0,.int .i32 0]) 2 8 Try.underlying102 hi3 hz30 hz31 hz32 rfl (by decide) _ 0 [] rfl HO.out ⟨b,0,none⟩ r.length cap (rnC r) rfl HL.out HN.out (rnC_one r) H0.out (by unfold maxLen;omega) (by omega) HB.out.size ?_;intro v8 w8 h1 h2;have H1:=hide h1;have H2:=hide h2;clear h1 h2)
 go_ret
 have o:=H1.out
 rw[Nat.zero_add,List.nil_append] at o
 obtain⟨g,c,rfl,hg,hz,hc1,hc2⟩:=RwB.of_own o H0.out
 exact⟨⟨g,c,rfl,hz,hg,hc1,hc2⟩,app_below HB.out HO.out H2.out (Nat.le_refl _)⟩
def keyX (x:Rn):List UInt8:=[UInt8.ofNat (x.1-1).toNat,UInt8.ofNat (x.2.toNat/16777216),UInt8.ofNat (x.2.toNat/65536%256),UInt8.ofNat (x.2.toNat/256%256),UInt8.ofNat (x.2.toNat%256)]
def keyR (r:List Rn):List UInt8:=r.flatMap keyX
def RnOk (x:Rn):Prop:=1≤x.1∧x.1≤256∧0≤x.2∧x.2<2147483648
theorem keyR_length (r:List Rn):(keyR r).length=5*r.length:=by
 unfold keyR
 induction r with
 |nil=>rfl
 |cons x l ih=>rw[List.flatMap_cons,List.length_append,ih,List.length_cons];simp[keyX];omega
theorem keyR_inj:∀(a b:List Rn),(∀x∈a,RnOk x)→(∀x∈b,RnOk x)→keyR a=keyR b→a=b
 |[],[],_,_,_=>rfl
 |[],_::_,_,_,h=>by simp[keyR,keyX] at h
 |_::_,[],_,_,h=>by simp[keyR,keyX] at h
 |x::a,y::b,ha,hb,h=>by
  simp only[keyR,List.flatMap_cons,keyX,List.cons_append,List.nil_append,List.cons.injEq] at h
  obtain⟨h1,h2,h3,h4,h5,h6⟩:=h
  obtain⟨x1,x2,x3,x4⟩:=ha x (by simp)
  obtain⟨y1,y2,y3,y4⟩:=hb y (by simp)
  have e1:=u8_inj (by omega) (by omega) h1
  have e2:=u8_inj (by omega) (by omega) h2
  have e3:=u8_inj (by omega) (by omega) h3
  have e4:=u8_inj (by omega) (by omega) h4
  have e5:=u8_inj (by omega) (by omega) h5
  have:x=y:=by
   obtain⟨xa,xb⟩:=x
   obtain⟨ya,yb⟩:=y
   simp only at *
   congr 1
   ·omega
   ·omega
  rw[this,keyR_inj a b (fun x hx=>ha x (by simp[hx])) (fun x hx=>hb x (by simp[hx])) h6]
theorem uC_keyR_snoc (A:List Rn) (x:Rn) (h:RnOk x):uC (keyR (A++[x]))=uC (keyR A)++[.int .u8 (x.1-1),.int .u8 (x.2/16777216),.int .u8 (x.2/65536%256),.int .u8 (x.2/256%256),.int .u8 (x.2%256)]:=by
 obtain⟨x1,x2,x3,x4⟩:=h
 obtain⟨xa,xb⟩:=x
 simp only at x1 x2 x3 x4
 obtain⟨n,rfl⟩:∃n:Nat,xa=(n:Int)+1:=⟨(xa-1).toNat,by omega⟩
 obtain⟨m,rfl⟩:∃m:Nat,xb=m:=⟨xb.toNat,by omega⟩
 unfold uC keyR
 rw[List.flatMap_append,List.map_append]
 simp[keyX,UInt8.toNat_ofNat']
 omega
theorem takeR_snoc {A:List Rn} {k:Nat} (h:k<A.length):A.take (k+1)=A.take k++[A[k]]:=List.take_succ_eq_append_getElem h
theorem five_new (w:World) (a b c d e:Value) (t:TypeId) (n:Nat) (hn:w.heap.size=n) (j:Nat) (u:Value) (hu:([a,b,c,d,e]:List Value)[j]? =some u):(w.alloc (.cells #[a,b,c,d,e] t)).cell? ((⟨n,0,none⟩:Addr).add j)=some u:=by
 subst hn
 match j,hu with
 |0,hu=>simp at hu;subst hu;simp[Addr.add]
 |1,hu=>simp at hu;subst hu;simp[Addr.add]
 |2,hu=>simp at hu;subst hu;simp[Addr.add]
 |3,hu=>simp at hu;subst hu;simp[Addr.add]
 |4,hu=>simp at hu;subst hu;simp[Addr.add]
set_option maxRecDepth 100000 in
set_option maxHeartbeats 4000000 in
theorem appendKey_any {w:World} {base:Nat} {v:Value} {b cap:Nat} {r:List Rn} (ho:w.ownsRow base 5 1 v 0 []) (hr:RwB w b r) (hx:∀x∈r,RnOk x) (hl:r.length≤65536) (hb:base≤w.heap.size) (hbv:v.ownBlock≠some b):
 Calls Try.prog 91 #[v,.slice (some ⟨b,0,none⟩) r.length cap] w fun e w'=>∃v',e=.returned v'∧w'.ownsRow base 5 1 v' (keyR r).length (uC (keyR r))∧GrowAt w w' v v':=by
 obtain⟨i5,hi5,hz50,hz51,hz52⟩:=info_parts Try.info5
 have HR:=hide hr
 have HX:=hide hx
 obtain⟨ao,cp,hv,hp⟩:=own_shape ho
 have HO:=hide ho
 clear hr hx ho hp
 subst hv
 go_enter Try.func91,Try.ntmps91
 go_wp2
 go_loopw [0,9] (fun v' x wr=>∃k:Nat,k≤r.length∧x=.int .i64 k∧Hid (wr.ownsRow base 5 1 v' (5*k) (uC (keyR (r.take k))))∧Hid (GrowAt w wr (.slice ao 0 cp) v')) (fun _ x _=>r.length-(RowKit.intOf x).toNat)
 case atStart=>exact⟨0,Nat.zero_le _,rfl,HO,hide ⟨Kept.refl _ _,fun k hk=>.inl hk⟩⟩
 case round=>
  obtain⟨k,hk,rfl,S3,HQ⟩:=hrel
  obtain⟨ao3,cap3,hv3,hp3⟩:=own_shape S3.out
  subst hv3
  by_cases hlt:k<r.length
  ·have hlt':(k:Int)<r.length:=by omega
   have HW:Hid (RwB wr b r):=HR.out.kept HQ.out.1 (fun h=>hbv h)
   obtain⟨q1,q2⟩:=HW.out.cell hlt
   have hr:=HX.out _ (List.getElem_mem hlt)
   have HS:=hide (takeR_snoc hlt)
   have HU:=hide (uC_keyR_snoc (r.take k) r[k] hr)
   generalize r[k]=x at *
   obtain⟨x1,x2,x3,x4⟩:=hr
   obtain⟨xa,xb⟩:=x
   simp only at x1 x2 x3 x4 q1 q2 HU HS
   have e0:IntKind.i32.wrap (xa-1)=xa-1:=by simp[IntKind.wrap,IntKind.bits,IntKind.signed];omega
   have e1:IntKind.u8.wrap (xa-1)=xa-1:=by simp[IntKind.wrap,IntKind.bits,IntKind.signed];omega
   have e2:IntKind.u8.wrap (xb/16777216)=xb/16777216:=by simp[IntKind.wrap,IntKind.bits,IntKind.signed];omega
   have e3:IntKind.u8.wrap (xb/65536)=xb/65536%256:=by simp[IntKind.wrap,IntKind.bits,IntKind.signed]
   have e4:IntKind.u8.wrap (xb/256)=xb/256%256:=by simp[IntKind.wrap,IntKind.bits,IntKind.signed]
   have e5:IntKind.u8.wrap xb=xb%256:=by simp[IntKind.wrap,IntKind.bits,IntKind.signed]
   have HSZ:=hide (Nat.le_trans hb HQ.out.1.size)
   go_wp2_with (at_builtin;refine wpList_append_view rfl (.tmp 13) (.tmp 33) 110 rfl base 5 i5 (.int .u8 0) 1 1 Try.underlying110 hi5 hz50 hz51 hz52 rfl (by decide) _ (5*k) (uC (keyR (r.take k))) rfl (own_below S3.out (al (al (Below.refl _ _) _) _)) ⟨wr.heap.size+1,0,none⟩ 5 5 [.int .u8 (xa-1),.int .u8 (xb/16777216),.int .u8 (xb/65536%256),.int .u8 (xb/256%256),.int .u8 (xb%256)] rfl rfl (five_new _ _ _ _ _ _ _ _ (by simp)) (by simp[Value.oneCell']) (by decide) (by unfold maxLen;omega) (by omega) (Nat.le_trans HSZ.out (al (al (Below.refl _ wr) _) _).size) ?_;intro v4 w4 h1 h2;obtain⟨ao4,cap4,hv4,_⟩:=own_shape h1;subst hv4;have H1:=hide h1;have H2:=hide ((appG h2).ahead (al (al (Below.refl _ _) _) _));clear h1 h2)
   go_roundw
   case rel=>
    refine⟨k+1,by omega,by go_num,?_,hide ⟨HQ.out.1.trans_new H2.out.1 (fun i _ hi=>(HQ.out.2 i hi).resolve_right (by omega)),fun j hj=>(H2.out.2 j hj).elim (HQ.out.2 j) (fun h=>.inr (Nat.le_trans HQ.out.1.size h))⟩⟩
    unfold Hid
    rw[HS.out,HU.out,show 5*(k+1)=5*k+5 by omega]
    exact H1.out
   case measure=>simp[RowKit.intOf];omega
  ·have hlt':¬(k:Int)<r.length:=by omega
   obtain rfl:k=r.length:=by omega
   rw[List.take_length] at S3
   go_wp2
   go_ret
   refine⟨_,rfl,?_,HQ.out⟩
   rw[keyR_length]
   exact S3.out
end Go.Proofs.Ytnddhkhmbjeefaa

