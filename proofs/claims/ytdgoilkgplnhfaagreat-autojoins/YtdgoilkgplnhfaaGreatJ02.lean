/-
  Lists that came out, each in a block of its own: all marked, then grown one by one; what was looked at stays. Of no program: no condition.
-/
import Derived.Lib.SliceRun
import Derived.Laws.OwnMore
import Derived.Maps.AppendAt
import Derived.Deep.RegionHeld3
import Derived.OwnWalk
import Derived.ArgAppend
import Derived.Test.YtdgoilkgplnhfaaGreatJ01
namespace Go.Proofs.YtdgoilkgplnhfaaGreat
open Go.RowKit Go.Lib
structure LD where
 v:Value
 n:Nat
def rep (mc:Nat→List Value) (i n:Nat):List Value:=(List.replicate n (mc i)).flatten
theorem qkr (mc:Nat→List Value) (i:Nat):rep mc i 0=[]:=rfl
theorem qem (mc:Nat→List Value) (i n:Nat):rep mc i (n+1)=rep mc i n++mc i:=by
 unfold rep;rw[List.replicate_succ',List.flatten_append];simp
theorem qcq {mc:Nat→List Value} {sz:Nat} (h:∀i,(mc i).length=sz) (i n:Nat):(rep mc i n).length=n*sz:=by
 induction n with
 |zero=>simp[qkr]
 |succ n ih=>rw[qem,List.length_append,ih,h,Nat.succ_mul]
theorem qgg {mc:Nat→List Value} {sz:Nat} (h:∀i,(mc i).length=sz) (i n j:Nat) (hj:j<n*sz):(rep mc i n)[j]? =(mc i)[j%sz]? :=by
 induction n with
 |zero=>omega
 |succ n ih=>
  rw[qem];by_cases hn:j<n*sz
  ·rw[List.getElem?_append_left (by rw[qcq h];exact hn),ih hn]
  ·rw[List.getElem?_append_right (by rw[qcq h];omega),qcq h]
   rw[Nat.succ_mul] at hj;have e:j%sz=j-n*sz:=by
    obtain⟨d,rfl⟩:∃d,j=n*sz+d:=⟨j-n*sz,by omega⟩;rw[Nat.mul_comm,Nat.mul_add_mod,Nat.mod_eq_of_lt (by omega)];omega
   rw[e]
theorem own_below {w w':World} {base size n:Nat} {e:TypeId} {v:Value} {xs:List Value} (h:w.ownsRow base e size v n xs) (hb:Below w.heap.size w w'):w'.ownsRow base e size v n xs:=by
 refine⟨h.1,?_⟩;rcases h.2 with hn|⟨g,cap,cur,rfl,hb',hg,r⟩
 ·exact .inl hn
 ·exact .inr ⟨g,cap,cur,rfl,hb',(hb.block g (lt_of_block hg)).trans hg,r⟩
theorem qai {F:Nat→Prop} {w w':World} {base size n:Nat} {e:TypeId} {v:Value} {xs:List Value} (h:w.ownsRow base e size v n xs) (hk:Kept F w w') (hF:∀k,v.ownBlock=some k→¬F k):w'.ownsRow base e size v n xs:=by
 refine⟨h.1,?_⟩;rcases h.2 with hn|⟨g,cap,cur,rfl,hb',hg,r⟩
 ·exact .inl hn
 ·exact .inr ⟨g,cap,cur,rfl,hb',(hk.block g (lt_of_block hg) (hF g rfl)).trans hg,r⟩
theorem qbx {w:World} {base base' size n:Nat} {e:TypeId} {v:Value} {xs:List Value} (h:w.ownsRow base e size v n xs) (hb:base'≤base):w.ownsRow base' e size v n xs:=by
 refine⟨h.1,?_⟩;rcases h.2 with hn|⟨g,cap,cur,rfl,hb',r⟩
 ·exact .inl hn
 ·exact .inr ⟨g,cap,cur,rfl,Nat.le_trans hb hb',r⟩
theorem qa5 {w:World} {base base' size size' n n':Nat} {e e':TypeId} {v v':Value} {xs xs':List Value} (h:w.ownsRow base e size v n xs) (h':w.ownsRow base' e' size' v' n' xs') (hne:e≠e'):∀k,v.ownBlock=some k→¬v'.ownBlock=some k:=fun k h3 h4=>by
 rcases h.2 with⟨rfl,_⟩|⟨g,cap,cur,rfl,_,hg,_⟩
 ·cases h3
 ·rcases h'.2 with⟨rfl,_⟩|⟨g',cap',cur',rfl,_,hg',_⟩
  ·cases h4
  ·cases h3
   cases h4;rw[hg] at hg';simp at hg';exact hne hg'.2
theorem qae {w w':World} {r:Option Nat} (h:w.grownBy w' r):Kept (fun k=>r=some k) w w':=(Kept.refl _ _).grown h (fun _ hk=>hk)
theorem qad {w w':World} (h:w.grownBy w' none):Below w.heap.size w w':=(Below.refl _ _).grown h (Nat.le_refl _) (fun k hk=>by cases hk)
def qbb (w w':World) (v v':Value):Prop:=(∃g,v.ownBlock=some g∧v'.ownBlock=some g∧w.grownBy w' (some g))∨(w.grownBy w' none∧∀k,v'.ownBlock=some k→w.heap.size≤k)
theorem qac {P:Program} {w:World} {ops:Array Oper} {rest:List Oper} {o:Oper} {a:Act} {Q:Exit→Act→World→Prop} (hgd:o.guard=none) (s x:Operand) (t:TypeId)
 (ho:o.op=.call { callee:=.builtin .append,args:=#[s,x],argTypes:=#[t,t] })
 (base:Nat) (e:TypeId) (i:TypeInfo) (z:Value) (size bytes:Nat) (ht:P.underlying t=some (.slice e)) (hi:P.info? e=some i) (hz:i.zero=some z)
 (hsize:i.size=size) (hby:i.bytes=bytes) (hzs:z.cells.size=size) (hsz:0<size)
 (v:Value) (n:Nat) (xs:List Value) (hs:a.eval s=v) (hown:w.ownsRow base e size v n xs)
 (ad:Addr) (m c:Nat) (news:List Value) (hx:a.eval x=.slice (some ad) m c) (hl:news.length=m*size) (hnews:∀j u,news[j]? =some u→w.cell? (ad.add j)=some u) (h1:∀u∈news,u.oneCell'=true)
 (hm:0<m) (h63:n+m≤maxLen) (hbytes:(n+m)*bytes≤140737488355328) (hbase:base≤w.heap.size)
 (h:∀v' w',w'.ownsRow base e size v' (n+m) (xs++news)→qbb w w' v v'→wpList P ops Q rest (a.put o.dst v') w'):
 wpList P ops Q (o::rest) a w:=by
 rcases hown.2 with⟨rfl,rfl⟩|⟨g,cap,cur,rfl,hb,hg,hnc,hcm,hcs,htake⟩
 ·have hx0:xs=[]:=List.eq_nil_of_length_eq_zero (by simpa using hown.1)
  subst hx0;refine wpList_append_grows w hgd s x t ho e i z size bytes ht hi hz hsize hby hzs hsz none 0 0 [] hs (fun _=>⟨rfl,rfl⟩) (by simp) (fun b hb=>by cases hb) ad m c news hx hl hnews h1 (by omega) h63 hbytes ?_;intro v' w' r1 r2;exact h v' w' (qbx r1 hbase) (.inr ⟨r2,fun k hk=>(World.ownsRow.lt r1 k hk).1⟩)
 ·by_cases hr:n+m≤cap
  ·refine wpList_append_fits w hgd s x t ho base e i size ht hi hsize g n cap xs hs hown ad m c news hx hl hnews h1 hr ?_
   intro w' r1 r2;exact h _ w' r1 (.inl ⟨g,rfl,rfl,r2⟩)
  ·refine wpList_append_grows w hgd s x t ho e i z size bytes ht hi hz hsize hby hzs hsz (some ⟨g,0,none⟩) n cap xs hs (fun h=>by cases h) hown.1 (fun b hb=>by cases hb;exact hown.cells (g:=g) rfl) ad m c news hx hl hnews h1 (by omega) h63 hbytes ?_
   intro v' w' r1 r2;exact h v' w' (qbx r1 hbase) (.inr ⟨r2,fun k hk=>(World.ownsRow.lt r1 k hk).1⟩)
structure Vw (T:TypeId) (sz:Nat) (mc:Nat→List Value) (w:World) (v:Value) (n i:Nat):Prop where
 shape:∃ao cap,v=.slice ao n cap∧(n=0∨∃g,ao=some ⟨g,0,none⟩∧∀j,j<n*sz→w.cell? ⟨g,j,none⟩=(mc i)[j%sz]?)
 ty:∀k,v.ownBlock=some k→∃cs,w.heap[k]? =some (.cells cs T (0,0))
 le:n≤maxLen
theorem Vw.lt {T:TypeId} {sz:Nat} {mc:Nat→List Value} {w:World} {v:Value} {n i:Nat} (h:Vw T sz mc w v n i) (k:Nat) (hk:v.ownBlock=some k):k<w.heap.size:=by
 obtain⟨cs,h⟩:=h.ty k hk;exact lt_of_block h
theorem Vw.kept {T:TypeId} {sz:Nat} {mc:Nat→List Value} {F:Nat→Prop} {w w':World} {v:Value} {n i:Nat} (h:Vw T sz mc w v n i) (hk:Kept F w w') (hF:∀k,v.ownBlock=some k→¬F k):Vw T sz mc w' v n i:=by
 refine⟨?_,fun k hb=>?_,h.le⟩
 ·obtain⟨ao,cap,rfl,h0|⟨g,rfl,hc⟩⟩:=h.shape
  ·exact⟨ao,cap,rfl,.inl h0⟩
  ·exact⟨_,cap,rfl,.inr ⟨g,rfl,fun j hj=>(hk.cell (p:=⟨g,j,none⟩) (h.lt g rfl) (hF g rfl)).trans (hc j hj)⟩⟩
 ·obtain⟨cs,h3⟩:=h.ty k hb
  exact⟨cs,(hk.block k (lt_of_block h3) (hF k hb)).trans h3⟩
theorem Vw.below {T:TypeId} {sz:Nat} {mc:Nat→List Value} {w w':World} {v:Value} {n i:Nat} (h:Vw T sz mc w v n i) (hb:Below w.heap.size w w'):Vw T sz mc w' v n i:=
 h.kept (F:=fun _=>False) (Kept.of_below hb) (fun _ _ h=>h)
theorem qbl {w:World} {base size n:Nat} {e:TypeId} {v:Value} {xs:List Value} (h:w.ownsRow base e size v n xs) (k:Nat) (hk:v.ownBlock=some k):∃cs,w.heap[k]? =some (.cells cs e (0,0)):=by
 rcases h.2 with⟨rfl,hn⟩|⟨g,cap,cur,rfl,hb,hg,r⟩
 ·cases hk
 ·cases hk
  exact⟨cur,hg⟩
theorem qn2 {w:World} {base size n:Nat} {e:TypeId} {v:Value} {xs:List Value} (h:w.ownsRow base e size v n xs):n≤maxLen:=by
 rcases h.2 with⟨rfl,hn⟩|⟨g,cap,cur,rfl,hb,hg,h1,h2,_⟩
 ·rw[hn];exact Nat.zero_le _
 ·exact Nat.le_trans h1 h2
theorem Vw.of_own {T:TypeId} {sz:Nat} {mc:Nat→List Value} (hmc:∀i,(mc i).length=sz) {w:World} {base n i:Nat} {v:Value} (h:w.ownsRow base T sz v n (rep mc i n)):Vw T sz mc w v n i:=by
 refine⟨?_,qbl h,qn2 h⟩;rcases h.2 with⟨rfl,hn⟩|⟨g,cap,cur,rfl,hb,hg,r⟩
 ·exact⟨none,0,by rw[hn],.inl hn⟩
 ·exact⟨_,cap,rfl,.inr ⟨g,rfl,fun j hj=>by rw[World.ownsRow.cellAt h j hj,qgg hmc i n j hj]⟩⟩
theorem Vw.short {T:TypeId} {sz:Nat} {mc:Nat→List Value} (hmc:∀i,(mc i).length=sz) {w w0:World} {base n m i g:Nat} {v x:Value} (hv:Vw T sz mc w0 v n i) (hg:v.ownBlock=some g) (hx:x.ownBlock=some g) (h:w.ownsRow base T sz x m (rep mc i m)) (hn:n≤m):Vw T sz mc w v n i:=by
 refine⟨?_,fun k hk=>qbl h k (by rw[hx];rw[hg] at hk;exact hk),hv.le⟩;obtain⟨ao,cap,rfl,h0|⟨g',rfl,_⟩⟩:=hv.shape
 ·exact⟨ao,cap,rfl,.inl h0⟩
 ·obtain rfl:g'=g:=Option.some.inj hg
  rcases h.2 with⟨rfl,_⟩|⟨g2,cap2,cur,rfl,_,_,_⟩
  ·cases hx
  ·obtain rfl:g2=g':=Option.some.inj hx
   refine⟨_,cap,rfl,.inr ⟨g2,rfl,fun j hj=>?_⟩⟩;have hj2:j<m*sz:=Nat.lt_of_lt_of_le hj (Nat.mul_le_mul_right sz hn);rw[World.ownsRow.cellAt h j hj2,qgg hmc i m j hj2]
theorem qag {w:World} {base size n:Nat} {e:TypeId} {v:Value} {xs:List Value} (h:w.ownsRow base e size v n xs):∃ao cap,v=.slice ao n cap∧(0<n→∃g,ao=some ⟨g,0,none⟩):=by
 rcases h.2 with⟨rfl,hn⟩|⟨g,cap,cur,rfl,hb,hg,r⟩
 ·exact⟨none,0,by rw[hn],fun h=>by omega⟩
 ·exact⟨_,cap,rfl,fun _=>⟨g,rfl⟩⟩
theorem qb5 {w:World} {base n:Nat} {e:TypeId} {v:Value} {D:List LD} (h:w.ownsRow base e 1 v n (D.map LD.v)) {g cap:Nat} (hv:v=.slice (some ⟨g,0,none⟩) n cap) {i:Nat} (hi:i<D.length) (hn:n=D.length):w.cell? ⟨g,i,none⟩=some (D[i]).v:=by
 subst hv hn;rw[World.ownsRow.cellAt h i (by omega)];simp[hi]
def qpc (D:List LD) (i k:Nat):Prop:=∃i',∃h:i'<D.length,i≤i'∧(D[i']).v.ownBlock=some k
def ApartL (D:List LD):Prop:=D.Pairwise (fun d e=>∀k,d.v.ownBlock=some k→¬e.v.ownBlock=some k)
theorem ApartL.ne {D:List LD} (h:ApartL D) {i j k:Nat} (hi:i<D.length) (hj:j<D.length) (hne:i≠j) (h1:(D[i]).v.ownBlock=some k):¬(D[j]).v.ownBlock=some k:=fun h2=>by
 have hp:=List.pairwise_iff_getElem.1 h;rcases Nat.lt_or_gt_of_ne hne with h3|h3
 ·exact hp i j hi hj h3 k h1 h2
 ·exact hp j i hj hi h3 k h2 h1
section
variable {TS T:TypeId} {sz:Nat} {mc:Nat→List Value}
structure qen (TS T:TypeId) (sz:Nat) (w:World) (base:Nat) (l:Value) (D:List LD) (X:Nat→List Value):Prop where
 row:w.ownsRow base TS 1 l D.length (D.map LD.v)
 each:∀i (h:i<D.length),w.ownsRow base T sz (D[i]).v (D[i]).n (X i)
 apart:ApartL D
theorem qen.turned (hne:TS≠T) {w w':World} {base:Nat} {l:Value} {D:List LD} {X:Nat→List Value} (h:qen TS T sz w base l D X) {i:Nat} (hi:i<D.length) {xs:List Value} (h1:w'.ownsRow base T sz (D[i]).v (D[i]).n xs) (hk:Kept (fun k=>(D[i]).v.ownBlock=some k) w w'):
 qen TS T sz w' base l D (fun j=>if j=i then xs else X j):=by
 refine⟨qai h.row hk (fun k h3 h4=>qa5 h.row (h.each i hi) hne k h3 h4),fun j hj=>?_,h.apart⟩;by_cases hji:j=i
 ·subst hji
  simp only[if_true];exact h1
 ·simp only[hji,if_false]
  exact qai (h.each j hj) hk (fun k h3 h4=>h.apart.ne hj hi hji h3 h4)
end
section
variable {K:Nat} {TS T:TypeId} {sz:Nat} {mc:Nat→List Value}
structure KrO (K:Nat) (TS T:TypeId) (sz:Nat) (mc:Nat→List Value) (w:World) (base:Nat) (l o:Value) (D:List LD) (A:List LD) (i:Nat):Prop where
 row:w.ownsRow base TS 1 l D.length (D.map LD.v)
 all:w.ownsRow base TS 1 o A.length (A.map LD.v)
 ol:∀k,o.ownBlock=some k→¬l.ownBlock=some k
 len:A.length=K*i
 views:∀j (hj:j<A.length),Vw T sz mc w (A[j]).v (A[j]).n (j/K)∧∀k,(A[j]).v.ownBlock=some k→¬qpc D i k
 lists:∀i' (h:i'<D.length),i≤i'→w.ownsRow base T sz (D[i']).v (D[i']).n (rep mc i' (D[i']).n)
 apart:ApartL D
structure Kr (K:Nat) (TS T:TypeId) (sz:Nat) (mc:Nat→List Value) (w:World) (base:Nat) (l o:Value) (D:List LD) (A:List LD) (i q:Nat) (x:Value) (nx:Nat):Prop where
 row:w.ownsRow base TS 1 l D.length (D.map LD.v)
 all:w.ownsRow base TS 1 o A.length (A.map LD.v)
 ol:∀k,o.ownBlock=some k→¬l.ownBlock=some k
 len:A.length=K*i+q
 views:∀j (hj:j<A.length),Vw T sz mc w (A[j]).v (A[j]).n (j/K)∧∀k,(A[j]).v.ownBlock=some k→¬qpc D (i+1) k∧(x.ownBlock=some k→j/K=i∧(A[j]).n≤nx)
 own:w.ownsRow base T sz x nx (rep mc i nx)
 xf:∀k,x.ownBlock=some k→¬qpc D (i+1) k
 lists:∀i' (h:i'<D.length),i+1≤i'→w.ownsRow base T sz (D[i']).v (D[i']).n (rep mc i' (D[i']).n)
 apart:ApartL D
theorem Kr.below {w w':World} {base:Nat} {l o:Value} {D A:List LD} {i q:Nat} {x:Value} {nx:Nat} (h:Kr K TS T sz mc w base l o D A i q x nx) (hb:Below w.heap.size w w'):Kr K TS T sz mc w' base l o D A i q x nx:=
 ⟨own_below h.row hb,own_below h.all hb,h.ol,h.len,fun j hj=>⟨(h.views j hj).1.below hb,(h.views j hj).2⟩,own_below h.own hb,h.xf,fun i' h1 h2=>own_below (h.lists i' h1 h2) hb,h.apart⟩
theorem KrO.start {w:World} {base:Nat} {l:Value} {D:List LD} (h:qen TS T sz w base l D (fun i=>rep mc i ((D[i]?.map LD.n).getD 0))):KrO K TS T sz mc w base l (.slice none 0 0) D [] 0:=
 ⟨h.row,World.ownsRow_nil w base TS 1,fun k hk=>(by cases hk),rfl,fun j hj=>(by simp at hj),fun i' h1 _=>by have:=h.each i' h1;simpa [h1] using this,h.apart⟩
theorem KrO.enter {w:World} {base:Nat} {l o:Value} {D A:List LD} {i:Nat} (h:KrO K TS T sz mc w base l o D A i) (hi:i<D.length):Kr K TS T sz mc w base l o D A i 0 (D[i]).v (D[i]).n:=by
 refine⟨h.row,h.all,h.ol,h.len,fun j hj=>⟨(h.views j hj).1,fun k hk=>⟨fun⟨i',h1,h2,h3⟩=>(h.views j hj).2 k hk ⟨i',h1,by omega,h3⟩,fun hx=>?_⟩⟩,h.lists i hi (Nat.le_refl _),fun k hk=>?_,fun i' h1 h2=>h.lists i' h1 (by omega),h.apart⟩
 ·exact absurd ⟨i,hi,Nat.le_refl _,hx⟩ ((h.views j hj).2 k hk)
 ·rintro⟨i',h1,h2,h3⟩
  exact h.apart.ne hi h1 (by omega) hk h3
theorem Kr.leave {w:World} {base:Nat} {l o:Value} {D A:List LD} {i:Nat} {x:Value} {nx:Nat} (h:Kr K TS T sz mc w base l o D A i K x nx):KrO K TS T sz mc w base l o D A (i+1):=
 ⟨h.row,h.all,h.ol,by have:=h.len;rw[Nat.mul_succ];exact this,fun j hj=>⟨(h.views j hj).1,fun k hk=>((h.views j hj).2 k hk).1⟩,h.lists,h.apart⟩
theorem Kr.push (hmc:∀i,(mc i).length=sz) (hne:TS≠T) {w w':World} {base:Nat} {l o o':Value} {D A:List LD} {i q:Nat} {x:Value} {nx:Nat} (h:Kr K TS T sz mc w base l o D A i q x nx) (hq:q<K)
 (h1:w'.ownsRow base TS 1 o' (A.length+1) (A.map LD.v++[x])) (h2:qbb w w' o o'):Kr K TS T sz mc w' base l o' D (A++[⟨x,nx⟩]) i (q+1) x nx:=by
 have hk:∃F:Nat→Prop,Kept F w w'∧(∀k,F k→o.ownBlock=some k):=by
  rcases h2 with⟨g,a,b,c⟩|⟨a,b⟩
  ·exact⟨fun k=>some g=some k,qae c,fun k hk=>a.trans hk⟩
  ·exact⟨fun _=>False,Kept.of_below (qad a),fun k hk=>hk.elim⟩
 obtain⟨F,hk,hF⟩:=hk;refine⟨qai h.row hk (fun k h3 h4=>h.ol k (hF k h4) h3),by rw[List.map_append,List.length_append];exact h1,?_,by rw[List.length_append,h.len];rfl,?_,qai h.own hk (fun k h3 h4=>qa5 h.all h.own hne k (hF k h4) h3),h.xf,fun i' h3 h4=>qai (h.lists i' h3 h4) hk (fun k h5 h6=>qa5 h.all (h.lists i' h3 h4) hne k (hF k h6) h5),h.apart⟩
 ·intro k hk'
  rcases h2 with⟨g,a,b,c⟩|⟨a,b⟩
  ·rw[b] at hk'
   exact h.ol k (a.trans hk')
  ·intro hl
   have:=b k hk';have:=(World.ownsRow.lt h.row k hl).2;omega
 ·intro j hj
  by_cases hja:j<A.length
  ·rw[List.getElem_append_left hja]
   obtain⟨v1,v2⟩:=h.views j hja;refine⟨v1.kept hk (fun k h3 h4=>?_),v2⟩;obtain⟨cs,h5⟩:=v1.ty k h3;obtain⟨cs',h6⟩:=qbl h.all k (hF k h4);rw[h5] at h6;simp at h6;exact hne h6.2.symm
  ·have hje:j=A.length:=by rw[List.length_append] at hj;simp at hj;omega
   subst hje;rw[List.getElem_append_right (Nat.le_refl _)];simp only[Nat.sub_self,List.getElem_cons_zero];rw[h.len,show(K*i+q)/K=i by rw[Nat.mul_add_div (by omega),Nat.div_eq_of_lt hq,Nat.add_zero]];exact⟨(Vw.of_own hmc h.own).kept hk (fun k h3 h4=>qa5 h.all h.own hne k (hF k h4) h3),fun k hk=>⟨h.xf k hk,fun _=>⟨rfl,Nat.le_refl _⟩⟩⟩
theorem Kr.grow (hmc:∀i,(mc i).length=sz) (hne:TS≠T) {w w':World} {base:Nat} {l o:Value} {D A:List LD} {i q:Nat} {x x':Value} {nx:Nat} (h:Kr K TS T sz mc w base l o D A i q x nx)
 (h1:w'.ownsRow base T sz x' (nx+1) (rep mc i nx++mc i)) (h2:qbb w w' x x'):Kr K TS T sz mc w' base l o D A i q x' (nx+1):=by
 rw[←qem] at h1;rcases h2 with⟨g,a,b,c⟩|⟨a,b⟩
 ·have hk:=qae c
  refine⟨qai h.row hk (fun k h3 h4=>?_),qai h.all hk (fun k h3 h4=>?_),h.ol,h.len,fun j hj=>?_,h1,fun k hk'=>h.xf k (by rw[a];rw[b] at hk';exact hk'),fun i' h3 h4=>qai (h.lists i' h3 h4) hk (fun k h5 h6=>?_),h.apart⟩
  ·cases h4
   exact qa5 h.row h.own hne g h3 a
  ·cases h4
   exact qa5 h.all h.own hne g h3 a
  ·obtain⟨v1,v2⟩:=h.views j hj
   refine⟨?_,fun k hk'=>⟨(v2 k hk').1,fun hx=>?_⟩⟩
   ·by_cases hb:(A[j]).v.ownBlock=some g
    ·obtain⟨e1,e2⟩:=(v2 g hb).2 a
     rw[e1] at v1 ⊢;exact v1.short hmc hb b h1 (by omega)
    ·exact v1.kept hk (fun k h3 h4=>hb (h3.trans h4.symm))
   ·have:=(v2 k hk').2 (by rw[a];rw[b] at hx;exact hx)
    exact⟨this.1,by omega⟩
  ·cases h6
   exact h.xf g a ⟨i',h3,h4,h5⟩
 ·have hb:=qad a
  refine⟨own_below h.row hb,own_below h.all hb,h.ol,h.len,fun j hj=>?_,h1,fun k hk=>?_,fun i' h3 h4=>own_below (h.lists i' h3 h4) hb,h.apart⟩
  ·obtain⟨v1,v2⟩:=h.views j hj
   refine⟨v1.below hb,fun k hk'=>⟨(v2 k hk').1,fun hx=>?_⟩⟩;have:=v1.lt k hk';have:=b k hx;omega
  ·rintro⟨i',h3,h4,h5⟩
   have:=(World.ownsRow.lt (h.lists i' h3 h4) k h5).2;have:=b k hk;omega
end
def qa9 (Q:TypeId→Prop) (w w':World):Prop:=∀(k:Nat) (cs:Array Value) (T:TypeId) (f:Nat×Nat),¬Q T→w.heap[k]? =some (.cells cs T f)→w'.heap[k]? =some (.cells cs T f)
theorem qa9.refl (Q:TypeId→Prop) (w:World):qa9 Q w w:=fun _ _ _ _ _ h=>h
theorem qa9.trans {Q:TypeId→Prop} {a b c:World} (h:qa9 Q a b) (h':qa9 Q b c):qa9 Q a c:=fun k cs T f h1 h3=>h' k cs T f h1 (h k cs T f h1 h3)
theorem qa9.below {Q:TypeId→Prop} {a b:World} (h:Below a.heap.size a b):qa9 Q a b:=fun k _ _ _ _ h3=>(h.block k (lt_of_block h3)).trans h3
theorem qa9.kept {Q:TypeId→Prop} {F:Nat→Prop} {a b:World} (h:Kept F a b) (hF:∀k,F k→∃cs T f,a.heap[k]? =some (.cells cs T f)∧Q T):qa9 Q a b:=fun k cs T f h1 h3=>(h.block k (lt_of_block h3) (fun hf=>by
 obtain⟨cs',T',f',h4,h5⟩:=hF k hf;rw[h3] at h4;simp at h4;exact h1 (by rw[h4.2.1];exact h5))).trans h3
theorem qa9.own {Q:TypeId→Prop} {a b:World} {base size n:Nat} {e:TypeId} {v:Value} {xs:List Value} (ho:a.ownsRow base e size v n xs) (hq:Q e) (h:Kept (fun k=>v.ownBlock=some k) a b):qa9 Q a b:=
 qa9.kept h (fun k hk=>by obtain⟨cs,h1⟩:=qbl ho k hk;exact⟨cs,e,_,h1,hq⟩)
theorem qa9.app {Q:TypeId→Prop} {a b:World} {base size n:Nat} {e:TypeId} {v v':Value} {xs:List Value} (h:qbb a b v v') (ho:a.ownsRow base e size v n xs) (hq:Q e):qa9 Q a b:=by
 rcases h with⟨g,h1,_,h3⟩|⟨h1,_⟩
 ·exact qa9.own ho hq ((qae h3).mono (fun k hk=>h1.trans hk))
 ·exact qa9.below (qad h1)
theorem qci {Q:TypeId→Prop} {w w':World} {base size n:Nat} {e:TypeId} {v:Value} {xs:List Value} (h:w.ownsRow base e size v n xs) (hk:qa9 Q w w') (hq:¬Q e):w'.ownsRow base e size v n xs:=by
 refine⟨h.1,?_⟩;rcases h.2 with hn|⟨g,cap,cur,rfl,hb',hg,r⟩
 ·exact .inl hn
 ·exact .inr ⟨g,cap,cur,rfl,hb',hk g _ _ _ hq hg,r⟩
theorem Vw.keepT {Q:TypeId→Prop} {T:TypeId} {sz:Nat} {mc:Nat→List Value} {w w':World} {v:Value} {n i:Nat} (h:Vw T sz mc w v n i) (hk:qa9 Q w w') (hq:¬Q T):Vw T sz mc w' v n i:=by
 refine⟨?_,fun k hb=>?_,h.le⟩
 ·obtain⟨ao,cap,rfl,h0|⟨g,rfl,hc⟩⟩:=h.shape
  ·exact⟨ao,cap,rfl,.inl h0⟩
  ·obtain⟨cs,h3⟩:=h.ty g rfl
   refine⟨_,cap,rfl,.inr ⟨g,rfl,fun j hj=>?_⟩⟩;rw[←hc j hj,cell_of_row _ _ _ _ _ _ h3,cell_of_row _ _ _ _ _ _ (hk g _ _ _ hq h3)]
 ·obtain⟨cs,h3⟩:=h.ty k hb
  exact⟨cs,hk k _ _ _ hq h3⟩
section
variable {K:Nat} {TS T:TypeId} {sz:Nat} {mc:Nat→List Value} {Q:TypeId→Prop}
theorem qen.keepT {w w':World} {base:Nat} {l:Value} {D:List LD} {X:Nat→List Value} (h:qen TS T sz w base l D X) (hk:qa9 Q w w') (h1:¬Q TS) (h2:¬Q T):qen TS T sz w' base l D X:=
 ⟨qci h.row hk h1,fun i hi=>qci (h.each i hi) hk h2,h.apart⟩
theorem KrO.keepT {w w':World} {base:Nat} {l o:Value} {D A:List LD} {i:Nat} (h:KrO K TS T sz mc w base l o D A i) (hk:qa9 Q w w') (h1:¬Q TS) (h2:¬Q T):KrO K TS T sz mc w' base l o D A i:=
 ⟨qci h.row hk h1,qci h.all hk h1,h.ol,h.len,fun j hj=>⟨(h.views j hj).1.keepT hk h2,(h.views j hj).2⟩,fun i' a b=>qci (h.lists i' a b) hk h2,h.apart⟩
end
def setL:List Value→Nat→List Value→List Value
 |xs,_,[]=>xs
 |xs,o,v::vs=>setL (xs.set o v) (o+1) vs
theorem qgh:∀(vs xs:List Value) (o j:Nat),j<o→(setL xs o vs)[j]? =xs[j]?
 |[],_,_,_,_=>rfl
 |v::vs,xs,o,j,h=>by rw[setL,qgh vs _ _ j (by omega),List.getElem?_set_ne (by omega)]
theorem qis:∀(vs xs:List Value) (o j:Nat),o≤j→j<o+vs.length→o+vs.length≤xs.length→(setL xs o vs)[j]? =vs[j-o]?
 |[],_,o,j,h,h2,_=>by simp at h2;omega
 |v::vs,xs,o,j,h,h2,h3=>by
  rw[List.length_cons] at h2 h3;rw[setL];by_cases hj:j=o
  ·subst hj
   rw[qgh vs _ _ j (by omega),List.getElem?_set_self (by omega),Nat.sub_self];rfl
  ·rw[qis vs _ _ j (by omega) (by omega) (by rw[List.length_set];omega),show j-o=(j-(o+1))+1 by omega,List.getElem?_cons_succ]
structure Mkg (TS T:TypeId) (sz:Nat) (mc:Nat→List Value) (w0:World) (base:Nat) (l:Value) (D:List LD) (i k:Nat) (X:Nat→List Value) (w:World):Prop where
 ls:qen TS T sz w base l D X
 done:∀i' (h:i'<D.length),i'<i→X i'=rep mc i' (D[i']).n
 part:∀j,j<k*sz→(X i)[j]? =(mc i)[j%sz]?
 below:Below base w0 w
 keep:qa9 (fun t=>t=T) w0 w
section
variable {TS T:TypeId} {sz:Nat} {mc:Nat→List Value}
theorem Mkg.start {w:World} {base:Nat} {l:Value} {D:List LD} {X:Nat→List Value} (h:qen TS T sz w base l D X):Mkg TS T sz mc w base l D 0 0 X w:=
 ⟨h,fun i' _ h=>by omega,fun j h=>by omega,Below.refl _ _,qa9.refl _ _⟩
theorem Mkg.step (hmc:∀i,(mc i).length=sz) (hne:TS≠T) {w0 w w':World} {base:Nat} {l:Value} {D:List LD} {i k:Nat} {X:Nat→List Value} (h:Mkg TS T sz mc w0 base l D i k X w) (hi:i<D.length) (hk:k<(D[i]).n)
 (h1:w'.ownsRow base T sz (D[i]).v (D[i]).n (setL (X i) (k*sz) (mc i))) (h2:Kept (fun j=>(D[i]).v.ownBlock=some j) w w') (hbw:base≤w0.heap.size):∃X',Mkg TS T sz mc w0 base l D i (k+1) X' w':=by
 have hh:=h.ls.each i hi;have hl:=hh.1;have hkn:(k+1)*sz≤(D[i]).n*sz:=Nat.mul_le_mul_right sz hk;rw[Nat.succ_mul] at hkn;refine⟨fun j=>if j=i then setL (X i) (k*sz) (mc i) else X j,h.ls.turned hne hi h1 h2,fun i' hi' hlt=>?_,fun j hj=>?_,?_,h.keep.trans (qa9.own hh rfl h2)⟩
 ·simp only[show ¬i'=i by omega,if_false]
  exact h.done i' hi' hlt
 ·simp only[if_true]
  rw[Nat.succ_mul] at hj;by_cases hj2:j<k*sz
  ·rw[qgh _ _ _ _ hj2]
   exact h.part j hj2
  ·rw[qis _ _ _ _ (by omega) (by rw[hmc];omega) (by rw[hmc];omega)]
   congr 1
   obtain⟨d,rfl⟩:∃d,j=k*sz+d:=⟨j-k*sz,by omega⟩;rw[Nat.mul_comm k sz,Nat.mul_add_mod,Nat.mod_eq_of_lt (by omega)];omega
 ·exact h.below.trans (h2.below (Nat.le_trans hbw h.below.size) (fun j hj=>(World.ownsRow.lt hh j hj).1))
theorem Mkg.next (hmc:∀i,(mc i).length=sz) {w0 w:World} {base:Nat} {l:Value} {D:List LD} {i:Nat} {X:Nat→List Value} (hi:i<D.length) (h:Mkg TS T sz mc w0 base l D i (D[i]).n X w):Mkg TS T sz mc w0 base l D (i+1) 0 X w:=by
 refine⟨h.ls,fun i' h1 h2=>?_,fun j hj=>by omega,h.below,h.keep⟩;rcases Nat.lt_or_ge i' i with h3|h3
 ·exact h.done i' h1 h3
 ·obtain rfl:i'=i:=by omega
  have hl:=(h.ls.each i' hi).1;apply List.ext_getElem?;intro j;by_cases hj:j<(D[i']).n*sz
  ·rw[h.part j hj,qgg hmc i' _ j hj]
  ·rw[List.getElem?_eq_none (by omega),List.getElem?_eq_none (by rw[qcq hmc];omega)]
theorem Mkg.out {w0 w:World} {base:Nat} {l:Value} {D:List LD} {X:Nat→List Value} (h:Mkg TS T sz mc w0 base l D D.length 0 X w):qen TS T sz w base l D (fun i=>rep mc i ((D[i]?.map LD.n).getD 0)):=by
 refine⟨h.ls.row,fun i hi=>?_,h.ls.apart⟩;have:=h.ls.each i hi;rw[h.done i hi hi] at this;simpa [hi] using this
end
theorem qmq {w:World} {base n cap g:Nat} {T:TypeId} {xs:List Value} (h:w.ownsRow base T 2 (.slice (some ⟨g,0,none⟩) n cap) n xs) {k:Nat} (hk:k<n) (a b:Value):
 (∃u,w.cell? ⟨g,k*2,none⟩=some u)∧w.frozen? ⟨g,k*2,none⟩=false∧(∃u,(w.setCell ⟨g,k*2,none⟩ a).cell? ⟨g,k*2+1,none⟩=some u)∧(w.setCell ⟨g,k*2,none⟩ a).frozen? ⟨g,k*2+1,none⟩=false∧
 ((w.setCell ⟨g,k*2,none⟩ a).setCell ⟨g,k*2+1,none⟩ b).ownsRow base T 2 (.slice (some ⟨g,0,none⟩) n cap) n (setL xs (k*2) [a,b])∧Kept (fun j=>some g=some j) w ((w.setCell ⟨g,k*2,none⟩ a).setCell ⟨g,k*2+1,none⟩ b):=by
 have hl:=h.1;obtain⟨h3,h4⟩:=h.stored (k*2) a;obtain⟨h5,h6⟩:=h3.stored (k*2+1) b;refine⟨⟨xs[k*2]'(by omega),?_⟩,h.frozenAt _,⟨(xs.set (k*2) a)[k*2+1]'(by rw[List.length_set];omega),?_⟩,h3.frozenAt _,h5,(qae h4).trans (qae h6)⟩
 ·rw[h.cellAt (k*2) (by omega)];exact List.getElem?_eq_getElem _
 ·rw[h3.cellAt (k*2+1) (by omega)];exact List.getElem?_eq_getElem _
end Go.Proofs.YtdgoilkgplnhfaaGreat

