/-
  What read makes of an arena's roots is a diagram of them. In pure words; of no program: no condition.
-/
import Derived.Test.YtnddhkhmbjeefaaC20
import Derived.Test.YtnddhkhmbjeefaaC10
import Derived.Deep.DeepCutAuto
import Derived.Deep.CutBlock
import Derived.Test.YtnddhkhmbjeefaaC14
import Derived.Test.YtnddhkhmbjeefaaC15
namespace Go.Proofs.Ytnddhkhmbjeefaa
open Go.RowKit
structure QOk (S:List Int) (N:List Nd) (l:Nat) (Q:List Int):Prop where
 nod:Q.Nodup
 z0:Q[0]? =some 0
 z1:Q[1]? =some 1
 has:∀f∈Q,hasR N f∧(l:Int)≤lvl S N f
structure RowsOf (S:List Int) (N:List Nd) (l:Nat) (Q Q':List Int) (rows:List (List Rn)):Prop where
 len:rows.length=Q.length
 row:∀i (hi:i<Q.length),∃h:Nat→Int,rows[i]? =some (rlN h (S.getD l 0).toNat)∧∀c,c<(S.getD l 0).toNat→0≤h c∧Q'[(h c).toNat]? =some (kidR S N l Q[i] c)
structure StepQ (S:List Int) (N:List Nd) (l:Nat) (Q Q':List Int) (y:Lay):Prop where
 lv:y.1=(l:Int)
 rows:RowsOf S N l Q Q' y.2
 ok:QOk S N (l+1) Q'
 frm:∀f∈Q',f=0∨f=1∨∃g∈Q,∃c:Nat,(c:Int)<S.getD l 0∧f=kidR S N l g c
def ChP (S:List Int) (N:List Nd):Nat→List Int→List Lay→List Int→Prop
 |_,Q,[],Q'=>Q=Q'
 |l,Q,y::T,Q'=>∃Q1,StepQ S N l Q Q1 y∧ChP S N (l+1) Q1 T Q'
section
variable {S:List Int} {M:Int} {N:List Nd} {l:Nat} {Q Q' Q1:List Int} {y:Lay} {p:Nat→Nat}
theorem ChP.snoc:∀ {L:List Lay} {l:Nat} {Q:List Int},ChP S N l Q L Q1→StepQ S N (l+L.length) Q1 Q' y→ChP S N l Q (L++[y]) Q'
 |[],l,Q,h,s=>by
  have e:Q=Q1:=h
  subst e
  exact⟨Q',s,rfl⟩
 |z::T,l,Q,⟨Q2,h1,h2⟩,s=>by
  refine⟨Q2,h1,ChP.snoc h2 ?_⟩
  have e:l+(z::T).length=l+1+T.length:=by simp;omega
  rw[←e]
  exact s
theorem at_one {α:Type} {R:List α} (hn:R.Nodup) {i j:Nat} {x:α} (hi:R[i]? =some x) (hj:R[j]? =some x):i=j:=by
 have h1:i<R.length:=by
  rcases Nat.lt_or_ge i R.length with h|h
  ·exact h
  ·rw[List.getElem?_eq_none h] at hi;cases hi
 have h2:j<R.length:=by
  rcases Nat.lt_or_ge j R.length with h|h
  ·exact h
  ·rw[List.getElem?_eq_none h] at hj;cases hj
 rw[List.getElem?_eq_getElem h1] at hi
 rw[List.getElem?_eq_getElem h2] at hj
 exact at_inj hn h1 h2 (by rw[Option.some.inj hi,Option.some.inj hj])
theorem some_lt {α:Type} {R:List α} {i:Nat} {x:α} (h:R[i]? =some x):i<R.length:=by
 rcases Nat.lt_or_ge i R.length with h1|h1
 ·exact h1
 ·rw[List.getElem?_eq_none h1] at h;cases h
theorem QOk.last (hok:Ok S M N) (h:QOk S N S.length Q):Q=[0,1]:=by
 have key:∀f∈Q,f=0∨f=1:=fun f hf=>by
  obtain⟨h1,h2⟩:=h.has f hf
  by_cases h3:2≤f
  ·obtain⟨l,ks,hn⟩:=hok.ndAt h3 h1.2
   have:=hn.lev
   have:=hn.lt
   omega
  ·have:=h1.1
   omega
 have h2:Q.length=2:=by
  have h3:=some_lt h.z1
  rcases Nat.lt_or_ge 2 Q.length with h4|h4
  ·rcases key Q[2] (List.getElem_mem h4) with e|e
   ·have:=at_one h.nod (by rw[List.getElem?_eq_getElem h4,e]:Q[2]? =some 0) h.z0
    omega
   ·have:=at_one h.nod (by rw[List.getElem?_eq_getElem h4,e]:Q[2]? =some 1) h.z1
    omega
  ·omega
 match Q,h2 with
 |[a,b],_=>
  have h0:=h.z0
  have h1:=h.z1
  simp at h0 h1
  rw[h0,h1]
theorem StepQ.row_const (s:StepQ S N l Q Q' y) (hl:l<S.length) (hs:1≤S.getD l 0) {i:Nat} {f:Int} (hi:Q[i]? =some f) (h0:¬2≤f) (hf:Q'[i]? =some f):y.2[i]? =some [(S.getD l 0,(i:Int))]:=by
 have hi':=some_lt hi
 obtain⟨h,h1,h2⟩:=s.rows.row i hi'
 rw[List.getElem?_eq_getElem hi'] at hi
 have e:=Option.some.inj hi
 rw[h1]
 congr 1
 have h3:∀c,c<(S.getD l 0).toNat→h c=(fun _=>(i:Int)) c:=fun c hc=>by
  obtain⟨h4,h5⟩:=h2 c hc
  rw[e,kidR_self (by rw[lvl_low h0];omega)] at h5
  have:=at_one s.ok.nod h5 hf
  show h c=(i:Int)
  omega
 rw[rlN_congr _ h3,rlN_const (fun _ _=>rfl) (by omega)]
 congr 2
 omega
theorem ChP.good (hok:Ok S M N):∀ {L:List Lay} {l:Nat} {Q:List Int},QOk S N l Q→l+L.length=S.length→ChP S N l Q L Q'→Wf S L∧wid L=Q.length∧(∀lv∈L.map (·.1),(l:Int)≤lv)∧∀(i:Nat) (f:Int),Q[i]? =some f→∀p,Pnt S p→sayL L (i:Int) p=sayR N p f
 |[],l,Q,hq,hl,_=>by
  have e:l=S.length:=by simpa using hl
  subst e
  have e:=hq.last hok
  subst e
  refine⟨trivial,rfl,by simp,fun i f hi p _=>?_⟩
  match i with
  |0=>
   have:f=0:=by simpa using hi.symm
   subst this
   rw[sayR_low (by omega)]
   rfl
  |1=>
   have:f=1:=by simpa using hi.symm
   subst this
   rw[sayR_low (by omega)]
   rfl
  |i+2=>simp at hi
 |y::T,l,Q,hq,hl,⟨Q1,s,hT⟩=>by
  rw[List.length_cons] at hl
  have hls:l<S.length:=by omega
  have hsz:=hok.sz.at (lv:=(l:Int)) (by omega) (by omega)
  have hsz':1≤S.getD l 0∧S.getD l 0≤256:=hsz
  obtain⟨i1,i2,i3,i4⟩:=ChP.good hok s.ok (by omega) hT
  have ey:szL S y.1=S.getD l 0:=by rw[s.lv];rfl
  have e0:y.2[0]? =some [(szL S y.1,0)]:=by rw[ey];exact s.row_const hls hsz'.1 hq.z0 (by omega) s.ok.z0
  have e1:y.2[1]? =some [(szL S y.1,1)]:=by rw[ey];exact s.row_const hls hsz'.1 hq.z1 (by omega) s.ok.z1
  have go:∀(i:Nat) (f:Int),Q[i]? =some f→∃h:Nat→Int,y.2[i]? =some (rlN h (S.getD l 0).toNat)∧∀c,c<(S.getD l 0).toNat→0≤h c∧Q1[(h c).toNat]? =some (kidR S N l f c):=fun i f hi=>by
   have hi':=some_lt hi
   rw[List.getElem?_eq_getElem hi'] at hi
   rw[←Option.some.inj hi]
   exact s.rows.row i hi'
  refine⟨⟨⟨by rw[s.lv];omega,by rw[s.lv];omega,e0,e1,?_,fun r hr=>?_⟩,fun hm=>?_,i1⟩,s.rows.len,fun lv hlv=>?_,fun i f hi p hp=>?_⟩
  ·refine List.pairwise_iff_getElem.2 (fun i j hi hj hij e=>?_)
   have hi':i<Q.length:=by rw[←s.rows.len];exact hi
   have hj':j<Q.length:=by rw[←s.rows.len];exact hj
   obtain⟨h,h1,h2⟩:=s.rows.row i hi'
   obtain⟨k,k1,k2⟩:=s.rows.row j hj'
   rw[List.getElem?_eq_getElem hi] at h1
   rw[List.getElem?_eq_getElem hj] at k1
   have e2:rlN h (S.getD l 0).toNat=rlN k (S.getD l 0).toNat:=by rw[←Option.some.inj h1,←Option.some.inj k1,e]
   have hI:=hq.has Q[i] (List.getElem_mem hi')
   have hJ:=hq.has Q[j] (List.getElem_mem hj')
   have e3:Q[i]=Q[j]:=hok.canon hI.1 hJ.1 (fun p hp=>by
    rw[kidR_say hok hls hI.1 hp,kidR_say hok hls hJ.1 hp]
    have hc:p l<(S.getD l 0).toNat:=by have:=hp l hls;omega
    have a1:=(h2 _ hc).2
    have a2:=(k2 _ hc).2
    rw[rlN_inj e2 hc,a2] at a1
    rw[Option.some.inj a1])
   have:=at_inj hq.nod hi' hj' e3
   omega
  ·obtain⟨i,hi,rfl⟩:=List.getElem_of_mem hr
   obtain⟨h,h1,h2⟩:=s.rows.row i (by rw[←s.rows.len];exact hi)
   rw[List.getElem?_eq_getElem hi] at h1
   refine⟨h,by rw[ey];exact Option.some.inj h1,fun c hc=>?_⟩
   rw[ey] at hc
   obtain⟨h3,h4⟩:=h2 c hc
   have:=some_lt h4
   rw[i2]
   exact⟨h3,by omega⟩
  ·have:=i3 _ hm
   rw[s.lv] at this
   omega
  ·simp only[List.map_cons,List.mem_cons] at hlv
   rcases hlv with rfl|hlv
   ·rw[s.lv];exact Int.le_refl _
   ·have:=i3 _ hlv
    omega
  ·obtain⟨h,h1,h2⟩:=go i f hi
   have hc:p l<(S.getD l 0).toNat:=by have:=hp l hls;omega
   obtain⟨h3,h4⟩:=h2 _ hc
   have hf:=hq.has f (List.mem_of_getElem? hi)
   simp only[sayL]
   rw[List.getD_eq_getElem?_getD,Int.toNat_natCast,h1,s.lv,Int.toNat_natCast]
   simp only[Option.getD_some]
   rw[goR_rlN _ _ _ hc,kidR_say hok hls hf.1 hp,←i4 _ _ h4 p hp]
   congr 1
   omega
theorem QOk.few (h:QOk S N l Q):Q.length≤N.length+2:=by
 have:=pigR (R:=fun(a:Int) (b:Nat)=>a=(b:Int)) Q (List.range (N.length+2)) h.nod (fun a ha=>⟨a.toNat,List.mem_range.2 (by have:=(h.has a ha).1.2;omega),by have:=(h.has a ha).1.1;omega⟩) (fun a _ a' _ b h1 h2=>by rw[h1,h2])
 rwa [List.length_range] at this
theorem adds_nodup:∀(ks:List Int) {Q:List Int},Q.Nodup→(adds Q ks).Nodup
 |[],_,h=>h
 |x::ks,_,h=>adds_nodup ks (plc_nodup h x)
theorem adds_mem {f:Int} {ks:List Int} (h:f∈adds Q ks):f∈Q∨f∈ks:=by
 obtain⟨U,h1,_,h3⟩:=adds_ext ks Q
 rw[h1] at h
 exact(List.mem_append.1 h).imp id (h3 f)
theorem adds_at {f:Int} {ks:List Int} {i:Nat} (h:Q[i]? =some f):(adds Q ks)[i]? =some f:=by
 obtain⟨U,h1,_,_⟩:=adds_ext ks Q
 rw[h1,List.getElem?_append_left (some_lt h)]
 exact h
theorem adds_app (Q a b:List Int):adds Q (a++b)=adds (adds Q a) b:=by unfold adds;rw[List.foldl_append]
theorem low_has {f:Int} (h0:0≤f) (h1:¬2≤f) (hl:l≤S.length):hasR N f∧(l:Int)≤lvl S N f:=⟨⟨h0,by omega⟩,by rw[lvl_low h1];omega⟩
theorem QOk.adds (hl:l≤S.length) {ks:List Int} (h:∀f∈ks,hasR N f∧(l:Int)≤lvl S N f):QOk S N l (adds [0,1] ks):=
 ⟨adds_nodup ks (by decide),adds_at rfl,adds_at rfl,fun f hf=>by
   rcases adds_mem hf with h1|h1
   ·simp at h1
    rcases h1 with rfl|rfl
    ·exact low_has (by omega) (by omega) hl
    ·exact low_has (by omega) (by omega) hl
   ·exact h f h1⟩
theorem kidsN_mem (hok:Ok S M N) (hl:l<S.length) {f x:Int} (hf:hasR N f) (hx:x∈kidsN S N l f):∃c:Nat,(c:Int)<S.getD l 0∧x=kidR S N l f c:=by
 have hsz:1≤S.getD l 0∧S.getD l 0≤256:=hok.sz.at (lv:=(l:Int)) (by omega) (by omega)
 unfold kidsN at hx
 by_cases e:lvl S N f=(l:Int)
 ·rw[if_pos e] at hx
  obtain⟨_,ks,hn⟩:=hok.node_of_lvl hf e hl
  rw[List.getD_eq_getElem?_getD,hn.at_] at hx
  simp only[Option.getD_some] at hx
  obtain⟨c,hc,rfl⟩:=List.getElem_of_mem hx
  have:=hn.len
  exact⟨c,by omega,by rw[kidR_node hn,List.getD_eq_getElem?_getD,List.getElem?_eq_getElem hc];rfl⟩
 ·rw[if_neg e] at hx
  exact⟨0,by omega,by rw[kidR_self e];exact List.mem_singleton.1 hx⟩
theorem StepQ.read (hok:Ok S M N) (hl:l<S.length) (hq:QOk S N l Q) {rows:List (List Rn)} (hr:RowsOf S N l Q (Go.Proofs.Ytnddhkhmbjeefaa.adds [0,1] (Q.flatMap (kidsN S N l))) rows):StepQ S N l Q (Go.Proofs.Ytnddhkhmbjeefaa.adds [0,1] (Q.flatMap (kidsN S N l))) ((l:Int),rows):=by
 have key:∀f∈Q.flatMap (kidsN S N l),∃g∈Q,∃c:Nat,(c:Int)<S.getD l 0∧f=kidR S N l g c:=fun f hf=>by
  obtain⟨g,hg,hx⟩:=List.mem_flatMap.1 hf
  exact⟨g,hg,kidsN_mem hok hl (hq.has g hg).1 hx⟩
 refine⟨rfl,hr,QOk.adds (by omega) (fun f hf=>?_),fun f hf=>?_⟩
 ·obtain⟨g,hg,c,hc,rfl⟩:=key f hf
  obtain⟨h1,h2⟩:=kidR_has hok hl (hq.has g hg).1 (hq.has g hg).2 hc
  exact⟨h1,by omega⟩
 ·rcases adds_mem hf with h1|h1
  ·simp at h1
   rcases h1 with h1|h1
   ·exact .inl h1
   ·exact .inr (.inl h1)
  ·exact .inr (.inr (key f h1))
def lows (l:Nat):List Int:=(List.range l).map fun(i:Nat)=>(i:Int)
theorem lows_mem {lv:Int}:lv∈lows l↔0≤lv∧lv<(l:Int):=by
 unfold lows
 rw[List.mem_map]
 constructor
 ·rintro⟨i,hi,rfl⟩
  have:=List.mem_range.1 hi
  omega
 ·intro h
  exact⟨lv.toNat,List.mem_range.2 (by omega),by omega⟩
def Rch (S:List Int) (N:List Nd) (rs:List Int) (l:Nat) (Q:List Int):Prop:=∀f∈Q,2≤f→∃k,∃h:k<rs.length,∃q,Pnt S q∧∀p,Pnt S p→sayR N p f=sayR N (mixP (lows l) q p) rs[k]
theorem StepQ.rch (hok:Ok S M N) (hl:l<S.length) (hq:QOk S N l Q) {rs:List Int} (hr:Rch S N rs l Q) (s:StepQ S N l Q Q' y):Rch S N rs (l+1) Q':=fun f hf h2=>by
 rcases s.frm f hf with h|h|⟨g,hg,c,hc,h⟩
 ·omega
 ·omega
 ·have hg':=hq.has g hg
  have hg2:2≤g:=by
   by_cases h3:2≤g
   ·exact h3
   ·rw[kidR_self (by rw[lvl_low h3];omega)] at h
    omega
  obtain⟨k,hk,q,hqp,e⟩:=hr g hg hg2
  obtain⟨k1,k2⟩:=kidR_has hok hl hg'.1 hg'.2 hc
  refine⟨k,hk,upd q l c,hqp.upd hc,fun p hp=>?_⟩
  have e1:=kidR_say hok hl hg'.1 (hp.upd hc)
  rw[upd_at,←h] at e1
  rw[←h] at k1 k2
  rw[←sayR_upd hok hp hc _ f (Nat.le_refl _) k1.1 k1.2 k2,←e1,e _ (hp.upd hc)]
  have:=mix_upd (p:=p) (q:=q) (o:=lows l) (o':=lows (l+1)) (lv:=(l:Int)) (by omega) (fun hm=>by have:=lows_mem.1 hm;omega) (fun x=>by rw[lows_mem,lows_mem];omega) (c:=c)
  rw[Int.toNat_natCast] at this
  rw[this]
theorem ChP.split:∀ {A B:List Lay} {l:Nat} {Q:List Int},ChP S N l Q (A++B) Q'→∃Qm,ChP S N l Q A Qm∧ChP S N (l+A.length) Qm B Q'
 |[],_,_,Q,h=>⟨Q,rfl,h⟩
 |a::A,B,l,Q,⟨Q1,s,h⟩=>by
  obtain⟨Qm,h1,h2⟩:=ChP.split h
  refine⟨Qm,⟨Q1,s,h1⟩,?_⟩
  have e:l+(a::A).length=l+1+A.length:=by simp;omega
  rw[e]
  exact h2
theorem ChP.end (hok:Ok S M N) {rs:List Int}:∀ {A:List Lay} {l:Nat} {Q Qm:List Int},QOk S N l Q→Rch S N rs l Q→l+A.length≤S.length→ChP S N l Q A Qm→QOk S N (l+A.length) Qm∧Rch S N rs (l+A.length) Qm∧∀lv,lv∈A.map (·.1)↔(l:Int)≤lv∧lv<((l+A.length:Nat):Int)
 |[],l,Q,Qm,h1,h2,_,h=>by
  have e:Q=Qm:=h
  subst e
  exact⟨h1,h2,fun lv=>by simp⟩
 |a::A,l,Q,Qm,h1,h2,hl,⟨Q1,s,h⟩=>by
  rw[List.length_cons] at hl
  obtain⟨i1,i2,i3⟩:=ChP.end hok s.ok (s.rch hok (by omega) h1 h2) (by omega) h
  have e:l+(a::A).length=l+1+A.length:=by simp;omega
  rw[e]
  refine⟨i1,i2,fun lv=>?_⟩
  rw[List.map_cons,List.mem_cons,i3 lv,s.lv]
  omega
theorem read_good (hok:Ok S M N) {rs R:List Int} (hrs:∀f∈rs,hasR N f) {L:List Lay} (hl:L.length=S.length) (h:ChP S N 0 (Go.Proofs.Ytnddhkhmbjeefaa.adds [0,1] rs) L Q') (hR:R.length=rs.length) (hRk:∀k (hk:k<rs.length),0≤R.getD k 0∧(Go.Proofs.Ytnddhkhmbjeefaa.adds [0,1] rs)[(R.getD k 0).toNat]? =some rs[k]):GD S (rs.map fun f p=>sayR N p f) R L:=by
 have q0:QOk S N 0 (Go.Proofs.Ytnddhkhmbjeefaa.adds [0,1] rs):=QOk.adds (Nat.zero_le _) (fun f hf=>⟨hrs f hf,(hok.lvl_le (hrs f hf)).1⟩)
 have r0:Rch S N rs 0 (Go.Proofs.Ytnddhkhmbjeefaa.adds [0,1] rs):=fun f hf h2=>by
  rcases adds_mem hf with h1|h1
  ·simp at h1
   omega
  ·obtain⟨k,hk,rfl⟩:=List.getElem_of_mem h1
   exact⟨k,hk,_,Pnt.zero hok.sz,fun p _=>by rw[show lows 0=[] from rfl,mix_nil]⟩
 obtain⟨g1,g2,g3,g4⟩:=ChP.good hok q0 (by omega) h
 refine⟨g1,hl,by rw[hR,List.length_map],fun k hk=>?_,fun A y T e x hx hx2=>?_⟩
 ·have hk':k<rs.length:=by rw[List.length_map] at hk;exact hk
  obtain⟨h1,h2⟩:=hRk k hk'
  have:=some_lt h2
  refine⟨⟨h1,by rw[g2];omega⟩,fun p hp=>?_⟩
  have:=g4 _ _ h2 p hp
  rw[Int.toNat_of_nonneg h1] at this
  rw[this,List.getElem_map]
 ·subst e
  obtain⟨Qm,c1,c2⟩:=ChP.split h
  rw[List.length_append,List.length_cons] at hl
  obtain⟨e1,e2,e3⟩:=ChP.end hok q0 r0 (by omega) c1
  obtain⟨f1,f2,f3,f4⟩:=ChP.good hok e1 (by rw[List.length_cons];omega) c2
  have f2':y.2.length=Qm.length:=f2
  have hxl:x.toNat<Qm.length:=by omega
  have hm:=List.getElem_mem hxl
  have hq:=List.getElem?_eq_getElem hxl
  have h2:2≤Qm[x.toNat]:=by
   by_cases h3:2≤Qm[x.toNat]
   ·exact h3
   ·have h4:=(e1.has _ hm).1.1
    rcases (by omega:Qm[x.toNat]=0∨Qm[x.toNat]=1) with h5|h5
    ·rw[h5] at hq
     have:=at_one e1.nod hq e1.z0
     omega
    ·rw[h5] at hq
     have:=at_one e1.nod hq e1.z1
     omega
  obtain⟨k,hk,q,hqp,e4⟩:=e2 _ hm h2
  refine⟨k,by rw[List.length_map];exact hk,q,hqp,fun p hp=>?_⟩
  have:=f4 _ _ hq p hp
  rw[Int.toNat_of_nonneg (by omega)] at this
  rw[this,e4 p hp,List.getElem_map]
  congr 1
  exact mix_perm (fun lv=>by rw[lows_mem,e3 lv];omega)
end
end Go.Proofs.Ytnddhkhmbjeefaa
namespace Go.Proofs.Ytnddhkhmbjeefaa
open Go.RowKit Go.Lib Go.Maps
theorem Try.info21:(Try.prog.info? 21).map (fun i=>(i.zero,i.size,i.bytes))=some (some (.int .i32 0),1,4):=by kernel_rfl
def RfTy (w:World) (P:Nat→Prop):Prop:=∀k,P k→∀cs T f,w.heap[k]? =some (.cells cs T f)→T=101∨T=3
def iC (R:List Int):List Value:=R.map fun x=>.int .i32 x
section
variable {w w':World} {r:Nat} {Q:List Int} {P F:Nat→Prop}
theorem RfAt.exact (h:RfAt w r Q P):∃P',RfAt w r Q P'∧(∀k,P' k→P k)∧RfTy w P':=by
 obtain⟨lv,mb,h1⟩:=h
 have sub:∀k,(k=r∨lv.ownBlock=some k∨k=mb)→P k:=fun k hk=>by
  rcases hk with e|e|e
  ·rw[e];exact h1.pr
  ·exact h1.pl k e
  ·rw[e];exact h1.pm
 refine⟨fun k=>k=r∨lv.ownBlock=some k∨k=mb,⟨lv,mb,⟨h1.blk,h1.row,h1.map,.inl rfl,fun k hk=>.inr (.inl hk),.inr (.inr rfl),fun k hk=>h1.plt k (sub k hk),fun k hk=>h1.nr k (sub k hk),h1.ok⟩⟩,sub,fun k hk cs T f e=>?_⟩
 rcases hk with hk|hk|hk
 ·subst hk
  rw[h1.blk] at e
  injection e with e
  injection e with _ e
  exact .inl e.symm
 ·obtain⟨cs',h5⟩:=own_ty h1.row _ hk
  rw[h5] at e
  injection e with e
  injection e with _ e
  exact .inr e.symm
 ·subst hk
  obtain⟨es,cl,h5⟩:=h1.map.blk
  rw[h5] at e
  cases e
theorem RfAt.lt (h:RfAt w r Q P):∀k,P k→k<w.heap.size:=by
 obtain⟨lv,mb,h1⟩:=h
 exact h1.plt
theorem RfTy.kept (h:RfTy w P) (hk:Kept F w w') (hl:∀k,P k→k<w.heap.size) (hF:∀k,P k→¬F k):RfTy w' P:=fun k hp cs T f e=>h k hp cs T f ((hk.block k (hl k hp) (hF k hp)).symm.trans e)
theorem RfTy.ne (h:RfTy w P) {k:Nat} {cs:Array Value} {T:TypeId} {f:Nat×Nat} (hb:w.heap[k]? =some (.cells cs T f)) (h1:T≠101) (h2:T≠3):¬P k:=fun hp=>(h k hp cs T f hb).elim h1 h2
end
structure Rd1 (w wr:World) (d r:Nat) (rs:List Int) (k:Nat) (R:List Int) (rv:Value) (P:Nat→Prop):Prop where
 res:wr.heap[w.heap.size]? =some (.cells #[.slice none 0 0,.slice none 0 0] 70 (0,0))
 dbl:wr.heap[d]? =some (.cells #[rv,.slice none 0 0] 70 (0,0))
 row:wr.ownsRow w.heap.size 21 1 rv k (iC R)
 len:R.length=k
 rf:RfAt wr r (adds [0,1] (rs.take k)) P
 ty:RfTy wr P
 new:∀z,P z→w.heap.size≤z
 bel:Below w.heap.size w wr
 hd:w.heap.size<d
 at_:∀j (hj:j<rs.length),j<k→0≤R.getD j 0∧(adds [0,1] (rs.take k))[(R.getD j 0).toNat]? =some rs[j]
section
variable {w wr w':World} {d r:Nat} {rs:List Int} {k:Nat} {R:List Int} {rv:Value} {P:Nat→Prop}
theorem Rd1.below (h:Rd1 w wr d r rs k R rv P) (x:Below wr.heap.size wr w'):Rd1 w w' d r rs k R rv P:=
 ⟨(x.block _ (lt_of_block h.res)).trans h.res,(x.block _ (lt_of_block h.dbl)).trans h.dbl,own_below h.row x,h.len,h.rf.below x,h.ty.kept (F:=fun _=>False) (Kept.of_below x) h.rf.lt (fun _ _ h=>h),h.new,bt h.bel x (Nat.le_refl _),h.hd,h.at_⟩
theorem Rd1.step (h:Rd1 w wr d r rs k R rv P) (hk:k<rs.length) {w2 w3 w4:World} {i:Nat} {P2:Nat→Prop} (hi:(plc (adds [0,1] (rs.take k)) rs[k])[i]? =some rs[k]) (r2:RfAt w2 r (plc (adds [0,1] (rs.take k)) rs[k]) P2) (k2:Kept P wr w2) (n2:∀z,P2 z→P z∨wr.heap.size≤z) (x3:Below w2.heap.size w2 w3) {g cap:Nat} (o4:w4.ownsRow w.heap.size 21 1 (.slice (some ⟨g,0,none⟩) (k+1) cap) (k+1) (iC R++[.int .i32 (i:Int)])) (g4:w3.grownBy w4 rv.ownBlock):
 ∃P',Rd1 w (w4.setCell ⟨d,0,none⟩ (.slice (some ⟨g,0,none⟩) (k+1) cap)) d r rs (k+1) (R++[(i:Int)]) (.slice (some ⟨g,0,none⟩) (k+1) cap) P':=by
 obtain⟨P',r2',sub,ty2⟩:=r2.exact
 have row2:w2.ownsRow w.heap.size 21 1 rv k (iC R):=own_kept h.row k2 (fun z hz=>by
  obtain⟨cs',h5⟩:=own_ty h.row _ hz
  exact h.ty.ne h5 (by decide) (by decide))
 have d2:=(k2.block d (lt_of_block h.dbl) (h.ty.ne h.dbl (by decide) (by decide))).trans h.dbl
 have e2:=(k2.block _ (lt_of_block h.res) (h.ty.ne h.res (by decide) (by decide))).trans h.res
 have row3:=own_below row2 x3
 have d3:=(x3.block d (lt_of_block d2)).trans d2
 have e3:=(x3.block _ (lt_of_block e2)).trans e2
 have r3:=r2'.below x3
 have ty3:=ty2.kept (F:=fun _=>False) (Kept.of_below x3) r2'.lt (fun _ _ h=>h)
 have k4:Kept (fun z=>rv.ownBlock=some z) w3 w4:=kept_of_grown g4
 have d4:=(k4.block d (lt_of_block d3) (fun hz=>by
  obtain⟨cs',h5⟩:=own_ty row3 _ hz
  exact ty_ne h5 d3 (by decide) rfl)).trans d3
 have e4:=(k4.block _ (lt_of_block e3) (fun hz=>by
  obtain⟨cs',h5⟩:=own_ty row3 _ hz
  exact ty_ne h5 e3 (by decide) rfl)).trans e3
 have nP:∀z,P' z→¬rv.ownBlock=some z:=fun z hp hz=>by
  obtain⟨cs',h5⟩:=own_ty row3 _ hz
  exact ty3.ne h5 (by decide) (by decide) hp
 have r4:=r3.kept k4 nP
 have ty4:=ty3.kept k4 r3.lt nP
 have k5:Kept (fun z=>z=d) w4 (w4.setCell ⟨d,0,none⟩ (.slice (some ⟨g,0,none⟩) (k+1) cap)):=Kept.setCell (F:=fun z=>z=d) (p:=⟨d,0,none⟩) (Kept.refl _ _) rfl _
 have nD:∀z,P' z→¬z=d:=fun z hp e=>by subst e;exact ty4.ne d4 (by decide) (by decide) hp
 have b2:Below w.heap.size w w2:=h.bel.trans (k2.below h.bel.size (fun z hz=>h.new z hz))
 have b3:=bt b2 x3 (Nat.le_refl _)
 have b4:Below w.heap.size w w4:=b3.trans (k4.below b3.size (fun z hz=>(World.ownsRow.lt row3 z hz).1))
 have eT:adds [0,1] (rs.take (k+1))=plc (adds [0,1] (rs.take k)) rs[k]:=adds_take hk
 refine⟨P',⟨(k5.block _ (lt_of_block e4) (fun e=>by have:=h.hd;omega)).trans e4,?_,?_,by rw[List.length_append,h.len];rfl,?_,ty4.kept k5 r4.lt nD,fun z hz=>?_,b4.trans (k5.below b4.size (fun z hz=>by rw[hz];exact Nat.le_of_lt h.hd)),h.hd,fun j hj hjk=>?_⟩⟩
 ·have:=block_setCell d4 0 (.slice (some ⟨g,0,none⟩) (k+1) cap)
  simpa using this
 ·have e5:iC (R++[(i:Int)])=iC R++[.int .i32 (i:Int)]:=by simp[iC]
  rw[e5]
  exact own_kept o4 k5 (fun z hz e=>by
   obtain⟨cs',h5⟩:=own_ty o4 _ hz
   exact ty_ne h5 d4 (by decide) e)
 ·rw[eT]
  exact r4.kept k5 nD
 ·rcases n2 z (sub z hz) with h1|h1
  ·exact h.new z h1
  ·exact Nat.le_trans h.bel.size h1
 ·rw[eT]
  by_cases e:j=k
  ·subst e
   rw[List.getD_eq_getElem?_getD,List.getElem?_append_right (by rw[h.len];exact Nat.le_refl _),h.len,Nat.sub_self]
   exact⟨Int.natCast_nonneg i,hi⟩
  ·obtain⟨h1,h2⟩:=h.at_ j hj (by omega)
   have eg:(R++[(i:Int)]).getD j 0=R.getD j 0:=by rw[List.getD_eq_getElem?_getD,List.getElem?_append_left (by rw[h.len];omega),List.getD_eq_getElem?_getD]
   rw[eg]
   obtain⟨U,hu,_⟩:=plc_ext (adds [0,1] (rs.take k)) rs[k]
   refine⟨h1,?_⟩
   rw[hu,List.getElem?_append_left (some_lt h2)]
   exact h2
end
structure Rd3 (S:List Int) (N:List Nd) (l:Nat) (Q:List Int) (wo wr:World) (nx bb:Nat) (k:Nat) (BL:List RD) (P:Nat→Prop):Prop where
 rf:RfAt wr nx (adds [0,1] ((Q.take k).flatMap (kidsN S N l))) P
 ty:RfTy wr P
 new:∀z,P z→wo.heap.size≤z
 bl:BlB wr bb Q.length BL
 hb:wo.heap.size≤bb
 len:BL.length=k
 row:∀i (h:i<BL.length),RwB wr (BL[i]).b (BL[i]).r∧RdF BL[i]∧∃h:Nat→Int,(BL[i]).r=rlN h (S.getD l 0).toNat∧∀c,c<(S.getD l 0).toNat→0≤h c∧(adds [0,1] ((Q.take k).flatMap (kidsN S N l)))[(h c).toNat]? =some (kidR S N l (Q.getD i 0) c)
 bel:Below wo.heap.size wo wr
section
variable {S:List Int} {M:Int} {N:List Nd} {l:Nat} {Q:List Int} {wo wr w2:World} {nx bb k:Nat} {BL:List RD} {P P2:Nat→Prop}
theorem Rd3.below (h:Rd3 S N l Q wo wr nx bb k BL P) (x:Below wr.heap.size wr w2):Rd3 S N l Q wo w2 nx bb k BL P:=
 ⟨h.rf.below x,h.ty.kept (F:=fun _=>False) (Kept.of_below x) h.rf.lt (fun _ _ h=>h),h.new,h.bl.below x,h.hb,h.len,fun i hi=>⟨(h.row i hi).1.below x,(h.row i hi).2⟩,bt h.bel x (Nat.le_refl _)⟩
theorem flat_take {f:Int→List Int} (hk:k<Q.length):(Q.take (k+1)).flatMap f=(Q.take k).flatMap f++f Q[k]:=by
 rw[List.take_succ_eq_append_getElem hk,List.flatMap_append]
 simp
theorem Rd3.step (h:Rd3 S N l Q wo wr nx bb k BL P) (hk:k<Q.length) {s g c:Nat} (hs:s=(S.getD l 0).toNat) (hs0:0<s) (hs1:s≤256) (hfew:(adds [0,1] ((Q.take (k+1)).flatMap (kidsN S N l))).length<100000) {f:Nat→Int} (hr:RwB w2 g (rlN f s)) (hc1:(rlN f s).length≤c) (hc2:c≤maxLen) (r2:RfAt w2 nx (adds (adds [0,1] ((Q.take k).flatMap (kidsN S N l))) (kidsN S N l Q[k])) P2) (k2:Kept P wr w2) (n2:∀z,P2 z→P z∨wr.heap.size≤z) (hf:∀j,j<s→0≤f j∧(adds (adds [0,1] ((Q.take k).flatMap (kidsN S N l))) (kidsN S N l Q[k]))[(f j).toNat]? =some (kidR S N l Q[k] j)):
 ∃P',Rd3 S N l Q wo (w2.setCell ⟨bb,k,none⟩ (.slice (some ⟨g,0,none⟩) (rlN f s).length c)) nx bb (k+1) (BL++[⟨g,c,rlN f s⟩]) P':=by
 subst hs
 obtain⟨P',r2',sub,ty2⟩:=r2.exact
 have eT:adds [0,1] ((Q.take (k+1)).flatMap (kidsN S N l))=adds (adds [0,1] ((Q.take k).flatMap (kidsN S N l))) (kidsN S N l Q[k]):=by rw[flat_take hk,adds_app]
 obtain⟨cs0,hcs0,_⟩:=id h.bl
 have bl2:=h.bl.kept k2 (h.ty.ne hcs0 (by decide) (by decide))
 obtain⟨cs,hcs,_⟩:=id bl2
 have nr:NoRun wr P:=by
  obtain⟨_,_,hX⟩:=h.rf
  exact hX.nr
 have k3:Kept (fun z=>z=bb) w2 (w2.setCell ⟨bb,k,none⟩ (.slice (some ⟨g,0,none⟩) (rlN f (S.getD l 0).toNat).length c)):=Kept.setCell (F:=fun z=>z=bb) (p:=⟨bb,k,none⟩) (Kept.refl _ _) rfl _
 have nr3:NoRun w2 (fun z=>z=bb):=fun z hz cs' e=>by subst hz;exact ty_ne hcs e (by decide) rfl
 have nB:∀z,P' z→¬z=bb:=fun z hp e=>by subst e;exact ty2.ne hcs (by decide) (by decide) hp
 have b2:Below wo.heap.size wo w2:=h.bel.trans (k2.below h.bel.size (fun z hz=>h.new z hz))
 have push:=bl2.push ⟨g,c,rlN f (S.getD l 0).toNat⟩ (by rw[h.len];exact hk)
 rw[h.len] at push
 refine⟨P',⟨?_,ty2.kept k3 r2'.lt nB,fun z hz=>?_,push,h.hb,by rw[List.length_append,h.len];rfl,fun i hi=>?_,b2.trans (k3.below b2.size (fun z hz=>by rw[hz];exact h.hb))⟩⟩
 ·rw[eT];exact r2'.kept k3 nB
 ·rcases n2 z (sub z hz) with h1|h1
  ·exact h.new z h1
  ·exact Nat.le_trans h.bel.size h1
 ·rw[List.length_append,List.length_singleton,h.len] at hi
  rw[eT]
  rw[eT] at hfew
  by_cases e:i<k
  ·have hib:i<BL.length:=by rw[h.len];exact e
   rw[List.getElem_append_left hib]
   obtain⟨a1,a2,q,a3,a4⟩:=h.row i hib
   refine⟨(a1.keptT k2 nr).keptT k3 nr3,a2,q,a3,fun c hc=>⟨(a4 c hc).1,adds_at (a4 c hc).2⟩⟩
  ·obtain rfl:i=k:=by omega
   have e2:(BL++[(⟨g,c,rlN f (S.getD l 0).toNat⟩:RD)])[i]'(by rw[List.length_append,List.length_singleton,h.len];omega)=⟨g,c,rlN f (S.getD l 0).toNat⟩:=by
    rw[List.getElem_append_right (by rw[h.len];exact Nat.le_refl _)]
    simp
   rw[e2]
   have eg:Q.getD i 0=Q[i]:=by rw[List.getD_eq_getElem?_getD,List.getElem?_eq_getElem hk];rfl
   rw[eg]
   refine⟨hr.keptT k3 nr3,⟨rlN_fit hs0 hs1 (fun j hj=>?_),hc1,hc2⟩,f,rfl,hf⟩
   obtain⟨h1,h2⟩:=hf j hj
   have:=some_lt h2
   exact⟨h1,by omega⟩
theorem Rd3.rows (h:Rd3 S N l Q wo wr nx bb Q.length BL P):RowsOf S N l Q (adds [0,1] (Q.flatMap (kidsN S N l))) (rdR BL):=by
 refine⟨by simp[rdR,h.len],fun i hi=>?_⟩
 have hib:i<BL.length:=by rw[h.len];exact hi
 obtain⟨_,_,q,a3,a4⟩:=h.row i hib
 rw[List.take_length] at a4
 have eg:Q.getD i 0=Q[i]:=by rw[List.getD_eq_getElem?_getD,List.getElem?_eq_getElem hi];rfl
 rw[eg] at a4
 exact⟨q,by simp[rdR,List.getElem?_map,List.getElem?_eq_getElem hib,a3],a4⟩
theorem Rd3.layer (h:Rd3 S N l Q wo wr nx bb Q.length BL P) (hq:Q.length≤100000) (rc:Nat):RowsB wr wr.heap.size ⟨(l:Int),bb,rc,BL⟩:=by
 obtain⟨cs,h1,_,h3⟩:=id h.bl
 refine⟨⟨cs,h1,h3⟩,h.bl.lt,fun y hy=>?_,by show BL.length≤_;rw[h.len];omega⟩
 obtain⟨i,hi,rfl⟩:=List.getElem_of_mem hy
 exact⟨(h.row i hi).1,(h.row i hi).2.1,(h.row i hi).1.lt⟩
end
structure Rd2 (S:List Int) (N:List Nd) (w wr:World) (d g r:Nat) (rs R:List Int) (rv lv:Value) (l:Nat) (Ls:List LA) (Q:List Int) (P:Nat→Prop):Prop where
 res:wr.heap[w.heap.size]? =some (.cells #[.slice none 0 0,.slice none 0 0] 70 (0,0))
 dbl:wr.heap[d]? =some (.cells #[rv,lv] 70 (0,0))
 row:wr.ownsRow w.heap.size 21 1 rv R.length (iC R)
 lro:wr.ownsRow w.heap.size 105 2 lv Ls.length (laC Ls)
 ly:∀x∈Ls,RowsB wr wr.heap.size x
 len:Ls.length=l
 rf:RfAt wr r Q P
 ty:RfTy wr P
 new:∀z,P z→w.heap.size≤z
 bel:Below w.heap.size w wr
 hd:w.heap.size<d
 zs:ZBk wr g S
 ch:ChP S N 0 (adds [0,1] rs) (layL Ls) Q
 ok:QOk S N l Q
section
variable {S:List Int} {M:Int} {N:List Nd} {w wr wo w2 w3:World} {d g r nx bb:Nat} {rs R:List Int} {rv lv:Value} {l:Nat} {Ls:List LA} {Q:List Int} {P P':Nat→Prop} {BL:List RD}
theorem Rd2.below (h:Rd2 S N w wr d g r rs R rv lv l Ls Q P) (x:Below wr.heap.size wr w2):Rd2 S N w w2 d g r rs R rv lv l Ls Q P:=
 ⟨(x.block _ (lt_of_block h.res)).trans h.res,(x.block _ (lt_of_block h.dbl)).trans h.dbl,own_below h.row x,own_below h.lro x,fun y hy=>((h.ly y hy).below x).mono x.size,h.len,h.rf.below x,h.ty.kept (F:=fun _=>False) (Kept.of_below x) h.rf.lt (fun _ _ h=>h),h.new,bt h.bel x (Nat.le_refl _),h.hd,h.zs.below x,h.ch,h.ok⟩
theorem Rd2.step (hok:Ok S M N) (hM:M≤8192) (hl:l<S.length) (h:Rd2 S N w wo d g r rs R rv lv l Ls Q P) (h3:Rd3 S N l Q wo wr nx bb Q.length BL P') (rc:Nat) (x2:Below wr.heap.size wr w2) {g4 cap:Nat} (o4:w3.ownsRow w.heap.size 105 2 (.slice (some ⟨g4,0,none⟩) (l+1) cap) (l+1) (laC Ls++[.int .i64 (l:Int),.slice (some ⟨bb,0,none⟩) Q.length rc])) (gr:w2.grownBy w3 lv.ownBlock):
 ∃Q2 P2,Rd2 S N w (w3.setCell ⟨d,1,none⟩ (.slice (some ⟨g4,0,none⟩) (l+1) cap)) d g nx rs R rv (.slice (some ⟨g4,0,none⟩) (l+1) cap) (l+1) (Ls++[⟨(l:Int),bb,rc,BL⟩]) Q2 P2:=by
 have hq:=h.ok.few
 have hN:=hok.few
 have lay:=h3.layer (by omega) rc
 have h':=(h.below h3.bel).below x2
 have h3':=h3.below x2
 have lay':=(lay.below x2).mono x2.size
 have st:=StepQ.read hok hl h.ok h3.rows
 have k4:Kept (fun z=>lv.ownBlock=some z) w2 w3:=kept_of_grown gr
 have ntl:∀ {z:Nat} {cs:Array Value} {T:TypeId} {f:Nat×Nat},w2.heap[z]? =some (.cells cs T f)→T≠105→¬lv.ownBlock=some z:=fun hb hT hz=>by
  obtain⟨cs',h5⟩:=own_ty h'.lro _ hz
  exact ty_ne h5 hb (fun e=>hT e.symm) rfl
 have d4:=(k4.block d (lt_of_block h'.dbl) (ntl h'.dbl (by decide))).trans h'.dbl
 have e4:=(k4.block _ (lt_of_block h'.res) (ntl h'.res (by decide))).trans h'.res
 have row4:=own_kept h'.row k4 (fun z hz hv=>by
  obtain⟨cs',h5⟩:=own_ty h'.row _ hz
  exact ntl h5 (by decide) hv)
 have ly4:∀x∈Ls++[(⟨(l:Int),bb,rc,BL⟩:LA)],RowsB w2 w2.heap.size x:=fun x hx=>by
  rcases List.mem_append.1 hx with hx|hx
  ·exact h'.ly x hx
  ·rw[List.mem_singleton.1 hx];exact lay'
 have k5:Kept (fun z=>z=d) w3 (w3.setCell ⟨d,1,none⟩ (.slice (some ⟨g4,0,none⟩) (l+1) cap)):=Kept.setCell (F:=fun z=>z=d) (p:=⟨d,1,none⟩) (Kept.refl _ _) rfl _
 have nP:∀z,P' z→¬lv.ownBlock=some z:=fun z hp hz=>by
  obtain⟨cs',h5⟩:=own_ty h'.lro _ hz
  exact h3'.ty.ne h5 (by decide) (by decide) hp
 have r4:=h3'.rf.kept k4 nP
 have ty4:=h3'.ty.kept k4 h3'.rf.lt nP
 have nD:∀z,P' z→¬z=d:=fun z hp e=>by subst e;exact ty4.ne d4 (by decide) (by decide) hp
 obtain⟨cz,hcz,_⟩:=id h'.zs
 have z4:=h'.zs.kept k4 (ntl hcz (by decide))
 obtain⟨cz4,hcz4,_⟩:=id z4
 have z5:=z4.kept k5 (fun e=>by subst e;exact ty_ne hcz4 d4 (by decide) rfl)
 have b4:Below w.heap.size w w3:=h'.bel.trans (k4.below h'.bel.size (fun z hz=>(World.ownsRow.lt h'.lro z hz).1))
 have el:laC (Ls++[(⟨(l:Int),bb,rc,BL⟩:LA)])=laC Ls++[.int .i64 (l:Int),.slice (some ⟨bb,0,none⟩) Q.length rc]:=by rw[laC_append];simp[laC,h3.len]
 rw[List.take_length] at r4
 refine⟨adds [0,1] (Q.flatMap (kidsN S N l)),P',⟨(k5.block _ (lt_of_block e4) (fun e=>by have:=h.hd;omega)).trans e4,?_,own_kept row4 k5 (fun z hz e=>?_),?_,fun x hx=>?_,by rw[List.length_append,h.len];rfl,r4.kept k5 nD,ty4.kept k5 r4.lt nD,fun z hz=>Nat.le_trans h.bel.size (h3.new z hz),b4.trans (k5.below b4.size (fun z hz=>by rw[hz];exact Nat.le_of_lt h.hd)),h.hd,z5,?_,st.ok⟩⟩
 ·have:=block_setCell d4 1 (.slice (some ⟨g4,0,none⟩) (l+1) cap)
  simpa using this
 ·obtain⟨cs',h5⟩:=own_ty row4 _ hz
  exact ty_ne h5 d4 (by decide) e
 ·rw[el,List.length_append,h.len]
  exact own_kept o4 k5 (fun z hz e=>by
   obtain⟨cs',h5⟩:=own_ty o4 _ hz
   exact ty_ne h5 d4 (by decide) e)
 ·have hx4:=ly4 x hx
  obtain⟨cs,c1,c2⟩:=hx4.blk
  have kk:∀ {z:Nat} {cs:Array Value} {T:TypeId} {f:Nat×Nat},w2.heap[z]? =some (.cells cs T f)→T≠105→T≠70→(w3.setCell ⟨d,1,none⟩ (.slice (some ⟨g4,0,none⟩) (l+1) cap)).heap[z]? =w2.heap[z]? :=fun {z cs T f} hb h1 h2=>by
   have a:=k4.block z (lt_of_block hb) (ntl hb h1)
   have b:=k5.block z (Nat.lt_of_lt_of_le (lt_of_block hb) k4.size) (fun e=>by
    rw[e] at a hb
    exact ty_ne (a.trans hb) d4 h2 rfl)
   exact b.trans a
  have hsz:w2.heap.size≤(w3.setCell ⟨d,1,none⟩ (.slice (some ⟨g4,0,none⟩) (l+1) cap)).heap.size:=Nat.le_trans k4.size k5.size
  refine⟨⟨cs,(kk c1 (by decide) (by decide)).trans c1,c2⟩,Nat.lt_of_lt_of_le hx4.lt hsz,fun y hy=>?_,hx4.few⟩
  obtain⟨a1,a2,a3⟩:=hx4.row y hy
  obtain⟨cy,hcy,_⟩:=id a1
  exact⟨a1.congr (kk hcy (by decide) (by decide)),a2,Nat.lt_of_lt_of_le a3 hsz⟩
 ·show ChP S N 0 (adds [0,1] rs) ((Ls++[(⟨(l:Int),bb,rc,BL⟩:LA)]).map LA.lay) _
  rw[List.map_append]
  refine ChP.snoc h.ch ?_
  rw[List.length_map,h.len,Nat.zero_add]
  exact st
end
end Go.Proofs.Ytnddhkhmbjeefaa

