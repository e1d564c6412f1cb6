/-
  What a call may have turned; the walk of a region, shut. No condition.
-/
import Derived.Test.YtnddhkhmbjeefaaProg
import Derived.WalkKit
import Derived.WalkLawsBesides
import Derived.Below
import Derived.OneCell
import Derived.Deep.QuietTactic
import Derived.BigQuiet
import Derived.Lib.SliceRun
import Derived.Laws.OwnMore
import Derived.Maps.AppendAt
import Derived.Deep.RegionHeld3
import Derived.OwnWalk
import Derived.ArgAppend
import Derived.Laws.Rows
namespace Go.Proofs.Ytnddhkhmbjeefaa
open Go.RowKit Go.Lib
structure Kept (F:Nat→Prop) (w w':World):Prop where
 os:w'.os=w.os
 tape:w'.tape=w.tape
 output:w'.output=w.output
 size:w.heap.size≤w'.heap.size
 block:∀k,k<w.heap.size→¬F k→w'.heap[k]? =w.heap[k]?
theorem Kept.refl (F:Nat→Prop) (w:World):Kept F w w:=⟨rfl,rfl,rfl,Nat.le_refl _,fun _ _ _=>rfl⟩
theorem Kept.trans {F:Nat→Prop} {a b c:World} (h:Kept F a b) (k:Kept F b c):Kept F a c:=
 ⟨k.os.trans h.os,k.tape.trans h.tape,k.output.trans h.output,Nat.le_trans h.size k.size,fun i hi hf=>(k.block i (Nat.lt_of_lt_of_le hi h.size) hf).trans (h.block i hi hf)⟩
theorem Kept.trans_new {F G:Nat→Prop} {a b c:World} (h:Kept F a b) (k:Kept G b c) (hG:∀i,i<a.heap.size→G i→F i):Kept F a c:=
 ⟨k.os.trans h.os,k.tape.trans h.tape,k.output.trans h.output,Nat.le_trans h.size k.size,fun i hi hf=>(k.block i (Nat.lt_of_lt_of_le hi h.size) (fun hg=>hf (hG i hi hg))).trans (h.block i hi hf)⟩
theorem Kept.mono {F G:Nat→Prop} {a b:World} (h:Kept F a b) (hG:∀i,F i→G i):Kept G a b:=
 ⟨h.os,h.tape,h.output,h.size,fun i hi hf=>h.block i hi (fun hg=>hf (hG i hg))⟩
theorem Kept.of_below {F:Nat→Prop} {a b:World} (h:Below a.heap.size a b):Kept F a b:=
 ⟨h.os,h.tape,h.output,h.size,fun i hi _=>h.block i hi⟩
theorem Kept.below {F:Nat→Prop} {B:Nat} {a b:World} (h:Kept F a b) (hB:B≤a.heap.size) (hF:∀i,F i→B≤i):Below B a b:=
 ⟨h.os,h.tape,h.output,h.size,fun i hi=>h.block i (by omega) (fun hf=>by have:=hF i hf;omega)⟩
theorem Kept.setCell {F:Nat→Prop} {a w:World} (h:Kept F a w) {p:Addr} (hp:F p.block) (u:Value):Kept F a (w.setCell p u):=
 h.trans ⟨rfl,rfl,rfl,by simp[World.setCell],fun k _ hf=>Below.heap_setCell _ _ _ _ (fun e=>hf (e▸hp))⟩
theorem Kept.drew {F:Nat→Prop} {a w:World} (h:Kept F a w):Kept F a w.drew:=⟨h.os,h.tape,h.output,h.size,h.block⟩
theorem Kept.grown {F:Nat→Prop} {a w w':World} {row:Option Nat} (h:Kept F a w) (hg:w.grownBy w' row) (hr:∀k,row=some k→F k):Kept F a w':=
 h.trans ⟨hg.os,hg.tape,hg.output,hg.size,fun k hk hf=>hg.block k hk (fun e=>hf (hr k e.symm))⟩
theorem Kept.cell {F:Nat→Prop} {w w':World} (h:Kept F w w') {p:Addr} (hp:p.block<w.heap.size) (hf:¬F p.block):w'.cell? p=w.cell? p:=World.cell?_of_block (w:=w) (h.block p.block hp hf)
section
variable {P:Program} {ops:Array Oper} {C:World→Prop} {Q:Act→Prop}
structure QW (P:Program) (ops:Array Oper) (C:World→Prop) (Q:Act→Prop) (l:List Oper) (a:Act):Prop where
 out:wpQuiet P ops C Q l a
theorem QW.skip {o:Oper} {rest:List Oper} {a:Act} (hw:Region.wanted o (yielded ops a.tmps)=false) (h:QW P ops C Q rest (a.put o.dst undef)):QW P ops C Q (o::rest) a:=
 ⟨wpQuiet_step fun K hK=>by rw[hw];exact hK _ h.out⟩
theorem QW.take {o:Oper} {rest:List Oper} {a:Act} (hw:Region.wanted o (yielded ops a.tmps)=true) (h:∃v,(∀w,C w→o.quietAt P a C w v)∧QW P ops C Q rest (a.put o.dst v)):QW P ops C Q (o::rest) a:=
 ⟨wpQuiet_step fun K hK=>by rw[hw];obtain⟨v,h1,h2⟩:=h;exact⟨v,h1,hK _ h2.out⟩⟩
theorem QW.nil {a:Act} (h:Q a):QW P ops C Q [] a:=⟨wpQuiet_nil h⟩
end
structure LD where
 v:Value
 n:Nat
def rep (mc:Nat→List Value) (i n:Nat):List Value:=(List.replicate n (mc i)).flatten
theorem rep_zero (mc:Nat→List Value) (i:Nat):rep mc i 0=[]:=rfl
theorem rep_succ (mc:Nat→List Value) (i n:Nat):rep mc i (n+1)=rep mc i n++mc i:=by
 unfold rep
 rw[List.replicate_succ',List.flatten_append]
 simp
theorem rep_length {mc:Nat→List Value} {sz:Nat} (h:∀i,(mc i).length=sz) (i n:Nat):(rep mc i n).length=n*sz:=by
 induction n with
 |zero=>simp[rep_zero]
 |succ n ih=>rw[rep_succ,List.length_append,ih,h,Nat.succ_mul]
theorem rep_get {mc:Nat→List Value} {sz:Nat} (h:∀i,(mc i).length=sz) (i n j:Nat) (hj:j<n*sz):(rep mc i n)[j]? =(mc i)[j%sz]? :=by
 induction n with
 |zero=>omega
 |succ n ih=>
  rw[rep_succ]
  by_cases hn:j<n*sz
  ·rw[List.getElem?_append_left (by rw[rep_length h];exact hn),ih hn]
  ·rw[List.getElem?_append_right (by rw[rep_length h];omega),rep_length h]
   rw[Nat.succ_mul] at hj
   have e:j%sz=j-n*sz:=by
    obtain⟨d,rfl⟩:∃d,j=n*sz+d:=⟨j-n*sz,by omega⟩
    rw[Nat.mul_comm,Nat.mul_add_mod,Nat.mod_eq_of_lt (by omega)]
    omega
   rw[e]
theorem own_below {w w':World} {base size n:Nat} {e:TypeId} {v:Value} {xs:List Value} (h:w.ownsRow base e size v n xs) (hb:Below w.heap.size w w'):w'.ownsRow base e size v n xs:=by
 refine⟨h.1,?_⟩
 rcases h.2 with hn|⟨g,cap,cur,rfl,hb',hg,r⟩
 ·exact .inl hn
 ·exact .inr ⟨g,cap,cur,rfl,hb',(hb.block g (lt_of_block hg)).trans hg,r⟩
theorem own_kept {F:Nat→Prop} {w w':World} {base size n:Nat} {e:TypeId} {v:Value} {xs:List Value} (h:w.ownsRow base e size v n xs) (hk:Kept F w w') (hF:∀k,v.ownBlock=some k→¬F k):w'.ownsRow base e size v n xs:=by
 refine⟨h.1,?_⟩
 rcases h.2 with hn|⟨g,cap,cur,rfl,hb',hg,r⟩
 ·exact .inl hn
 ·exact .inr ⟨g,cap,cur,rfl,hb',(hk.block g (lt_of_block hg) (hF g rfl)).trans hg,r⟩
theorem own_mono {w:World} {base base' size n:Nat} {e:TypeId} {v:Value} {xs:List Value} (h:w.ownsRow base e size v n xs) (hb:base'≤base):w.ownsRow base' e size v n xs:=by
 refine⟨h.1,?_⟩
 rcases h.2 with hn|⟨g,cap,cur,rfl,hb',r⟩
 ·exact .inl hn
 ·exact .inr ⟨g,cap,cur,rfl,Nat.le_trans hb hb',r⟩
theorem own_ne {w:World} {base base' size size' n n':Nat} {e e':TypeId} {v v':Value} {xs xs':List Value} (h:w.ownsRow base e size v n xs) (h':w.ownsRow base' e' size' v' n' xs') (hne:e≠e'):∀k,v.ownBlock=some k→¬v'.ownBlock=some k:=fun k h3 h4=>by
 rcases h.2 with⟨rfl,_⟩|⟨g,cap,cur,rfl,_,hg,_⟩
 ·cases h3
 ·rcases h'.2 with⟨rfl,_⟩|⟨g',cap',cur',rfl,_,hg',_⟩
  ·cases h4
  ·cases h3
   cases h4
   rw[hg] at hg'
   simp at hg'
   exact hne hg'.2
theorem kept_of_grown {w w':World} {r:Option Nat} (h:w.grownBy w' r):Kept (fun k=>r=some k) w w':=(Kept.refl _ _).grown h (fun _ hk=>hk)
theorem below_of_grown {w w':World} (h:w.grownBy w' none):Below w.heap.size w w':=(Below.refl _ _).grown h (Nat.le_refl _) (fun k hk=>by cases hk)
def AppAt (w w':World) (v v':Value):Prop:=(∃g,v.ownBlock=some g∧v'.ownBlock=some g∧w.grownBy w' (some g))∨(w.grownBy w' none∧∀k,v'.ownBlock=some k→w.heap.size≤k)
theorem wpList_append_view {P:Program} {w:World} {ops:Array Oper} {rest:List Oper} {o:Oper} {a:Act} {Q:Exit→Act→World→Prop} (hgd:o.guard=none) (s x:Operand) (t:TypeId)
 (ho:o.op=.call { callee:=.builtin .append,args:=#[s,x],argTypes:=#[t,t] })
 (base:Nat) (e:TypeId) (i:TypeInfo) (z:Value) (size bytes:Nat) (ht:P.underlying t=some (.slice e)) (hi:P.info? e=some i) (hz:i.zero=some z)
 (hsize:i.size=size) (hby:i.bytes=bytes) (hzs:z.cells.size=size) (hsz:0<size)
 (v:Value) (n:Nat) (xs:List Value) (hs:a.eval s=v) (hown:w.ownsRow base e size v n xs)
 (ad:Addr) (m c:Nat) (news:List Value) (hx:a.eval x=.slice (some ad) m c) (hl:news.length=m*size) (hnews:∀j u,news[j]? =some u→w.cell? (ad.add j)=some u) (h1:∀u∈news,u.oneCell'=true)
 (hm:0<m) (h63:n+m≤maxLen) (hbytes:(n+m)*bytes≤140737488355328) (hbase:base≤w.heap.size)
 (h:∀v' w',w'.ownsRow base e size v' (n+m) (xs++news)→AppAt w w' v v'→wpList P ops Q rest (a.put o.dst v') w'):
 wpList P ops Q (o::rest) a w:=by
 rcases hown.2 with⟨rfl,rfl⟩|⟨g,cap,cur,rfl,hb,hg,hnc,hcm,hcs,htake⟩
 ·have hx0:xs=[]:=List.eq_nil_of_length_eq_zero (by simpa using hown.1)
  subst hx0
  refine wpList_append_grows w hgd s x t ho e i z size bytes ht hi hz hsize hby hzs hsz none 0 0 [] hs (fun _=>⟨rfl,rfl⟩) (by simp) (fun b hb=>by cases hb) ad m c news hx hl hnews h1 (by omega) h63 hbytes ?_
  intro v' w' r1 r2
  exact h v' w' (own_mono r1 hbase) (.inr ⟨r2,fun k hk=>(World.ownsRow.lt r1 k hk).1⟩)
 ·by_cases hr:n+m≤cap
  ·refine wpList_append_fits w hgd s x t ho base e i size ht hi hsize g n cap xs hs hown ad m c news hx hl hnews h1 hr ?_
   intro w' r1 r2
   exact h _ w' r1 (.inl ⟨g,rfl,rfl,r2⟩)
  ·refine wpList_append_grows w hgd s x t ho e i z size bytes ht hi hz hsize hby hzs hsz (some ⟨g,0,none⟩) n cap xs hs (fun h=>by cases h) hown.1 (fun b hb=>by cases hb;exact hown.cells (g:=g) rfl) ad m c news hx hl hnews h1 (by omega) h63 hbytes ?_
   intro v' w' r1 r2
   exact h v' w' (own_mono r1 hbase) (.inr ⟨r2,fun k hk=>(World.ownsRow.lt r1 k hk).1⟩)
structure Vw (T:TypeId) (sz:Nat) (mc:Nat→List Value) (w:World) (v:Value) (n i:Nat):Prop where
 shape:∃ao cap,v=.slice ao n cap∧(n=0∨∃g,ao=some ⟨g,0,none⟩∧∀j,j<n*sz→w.cell? ⟨g,j,none⟩=(mc i)[j%sz]?)
 ty:∀k,v.ownBlock=some k→∃cs,w.heap[k]? =some (.cells cs T (0,0))
 le:n≤maxLen
theorem Vw.lt {T:TypeId} {sz:Nat} {mc:Nat→List Value} {w:World} {v:Value} {n i:Nat} (h:Vw T sz mc w v n i) (k:Nat) (hk:v.ownBlock=some k):k<w.heap.size:=by
 obtain⟨cs,h⟩:=h.ty k hk
 exact lt_of_block h
theorem Vw.kept {T:TypeId} {sz:Nat} {mc:Nat→List Value} {F:Nat→Prop} {w w':World} {v:Value} {n i:Nat} (h:Vw T sz mc w v n i) (hk:Kept F w w') (hF:∀k,v.ownBlock=some k→¬F k):Vw T sz mc w' v n i:=by
 refine⟨?_,fun k hb=>?_,h.le⟩
 ·obtain⟨ao,cap,rfl,h0|⟨g,rfl,hc⟩⟩:=h.shape
  ·exact⟨ao,cap,rfl,.inl h0⟩
  ·exact⟨_,cap,rfl,.inr ⟨g,rfl,fun j hj=>(hk.cell (p:=⟨g,j,none⟩) (h.lt g rfl) (hF g rfl)).trans (hc j hj)⟩⟩
 ·obtain⟨cs,h3⟩:=h.ty k hb
  exact⟨cs,(hk.block k (lt_of_block h3) (hF k hb)).trans h3⟩
theorem Vw.below {T:TypeId} {sz:Nat} {mc:Nat→List Value} {w w':World} {v:Value} {n i:Nat} (h:Vw T sz mc w v n i) (hb:Below w.heap.size w w'):Vw T sz mc w' v n i:=
 h.kept (F:=fun _=>False) (Kept.of_below hb) (fun _ _ h=>h)
theorem own_ty {w:World} {base size n:Nat} {e:TypeId} {v:Value} {xs:List Value} (h:w.ownsRow base e size v n xs) (k:Nat) (hk:v.ownBlock=some k):∃cs,w.heap[k]? =some (.cells cs e (0,0)):=by
 rcases h.2 with⟨rfl,hn⟩|⟨g,cap,cur,rfl,hb,hg,r⟩
 ·cases hk
 ·cases hk
  exact⟨cur,hg⟩
theorem own_le {w:World} {base size n:Nat} {e:TypeId} {v:Value} {xs:List Value} (h:w.ownsRow base e size v n xs):n≤maxLen:=by
 rcases h.2 with⟨rfl,hn⟩|⟨g,cap,cur,rfl,hb,hg,h1,h2,_⟩
 ·rw[hn];exact Nat.zero_le _
 ·exact Nat.le_trans h1 h2
theorem Vw.of_own {T:TypeId} {sz:Nat} {mc:Nat→List Value} (hmc:∀i,(mc i).length=sz) {w:World} {base n i:Nat} {v:Value} (h:w.ownsRow base T sz v n (rep mc i n)):Vw T sz mc w v n i:=by
 refine⟨?_,own_ty h,own_le h⟩
 rcases h.2 with⟨rfl,hn⟩|⟨g,cap,cur,rfl,hb,hg,r⟩
 ·exact⟨none,0,by rw[hn],.inl hn⟩
 ·exact⟨_,cap,rfl,.inr ⟨g,rfl,fun j hj=>by rw[World.ownsRow.cellAt h j hj,rep_get hmc i n j hj]⟩⟩
theorem own_shape {w:World} {base size n:Nat} {e:TypeId} {v:Value} {xs:List Value} (h:w.ownsRow base e size v n xs):∃ao cap,v=.slice ao n cap∧(0<n→∃g,ao=some ⟨g,0,none⟩):=by
 rcases h.2 with⟨rfl,hn⟩|⟨g,cap,cur,rfl,hb,hg,r⟩
 ·exact⟨none,0,by rw[hn],fun h=>by omega⟩
 ·exact⟨_,cap,rfl,fun _=>⟨g,rfl⟩⟩
def FutL (D:List LD) (i k:Nat):Prop:=∃i',∃h:i'<D.length,i≤i'∧(D[i']).v.ownBlock=some k
def ApartL (D:List LD):Prop:=D.Pairwise (fun d e=>∀k,d.v.ownBlock=some k→¬e.v.ownBlock=some k)
theorem ApartL.ne {D:List LD} (h:ApartL D) {i j k:Nat} (hi:i<D.length) (hj:j<D.length) (hne:i≠j) (h1:(D[i]).v.ownBlock=some k):¬(D[j]).v.ownBlock=some k:=fun h2=>by
 have hp:=List.pairwise_iff_getElem.1 h
 rcases Nat.lt_or_gt_of_ne hne with h3|h3
 ·exact hp i j hi hj h3 k h1 h2
 ·exact hp j i hj hi h3 k h2 h1
section
variable {TS T:TypeId} {sz:Nat} {mc:Nat→List Value}
structure LsAt (TS T:TypeId) (sz:Nat) (w:World) (base:Nat) (l:Value) (D:List LD) (X:Nat→List Value):Prop where
 row:w.ownsRow base TS 1 l D.length (D.map LD.v)
 each:∀i (h:i<D.length),w.ownsRow base T sz (D[i]).v (D[i]).n (X i)
 apart:ApartL D
theorem LsAt.below {w w':World} {base:Nat} {l:Value} {D:List LD} {X:Nat→List Value} (h:LsAt TS T sz w base l D X) (hb:Below w.heap.size w w'):LsAt TS T sz w' base l D X:=
 ⟨own_below h.row hb,fun i hi=>own_below (h.each i hi) hb,h.apart⟩
structure GrO (TS T:TypeId) (sz:Nat) (mc:Nat→List Value) (w:World) (base:Nat) (l o:Value) (D:List LD) (A:List LD) (i:Nat):Prop where
 row:w.ownsRow base TS 1 l D.length (D.map LD.v)
 all:w.ownsRow base TS 1 o A.length (A.map LD.v)
 ol:∀k,o.ownBlock=some k→¬l.ownBlock=some k
 len:A.length=6*i
 views:∀j (hj:j<A.length),Vw T sz mc w (A[j]).v (A[j]).n (j/6)∧∀k,(A[j]).v.ownBlock=some k→¬FutL D i k
 lists:∀i' (h:i'<D.length),i≤i'→w.ownsRow base T sz (D[i']).v (D[i']).n (rep mc i' (D[i']).n)
 apart:ApartL D
structure Gr (TS T:TypeId) (sz:Nat) (mc:Nat→List Value) (w:World) (base:Nat) (l o:Value) (D:List LD) (A:List LD) (i q:Nat) (x:Value) (nx:Nat):Prop where
 row:w.ownsRow base TS 1 l D.length (D.map LD.v)
 all:w.ownsRow base TS 1 o A.length (A.map LD.v)
 ol:∀k,o.ownBlock=some k→¬l.ownBlock=some k
 len:A.length=6*i+q
 views:∀j (hj:j<A.length),Vw T sz mc w (A[j]).v (A[j]).n (j/6)∧∀k,(A[j]).v.ownBlock=some k→¬FutL D (i+1) k∧(x.ownBlock=some k→j/6=i∧(A[j]).n≤nx)
 own:w.ownsRow base T sz x nx (rep mc i nx)
 xf:∀k,x.ownBlock=some k→¬FutL D (i+1) k
 lists:∀i' (h:i'<D.length),i+1≤i'→w.ownsRow base T sz (D[i']).v (D[i']).n (rep mc i' (D[i']).n)
 apart:ApartL D
theorem GrO.below {w w':World} {base:Nat} {l o:Value} {D A:List LD} {i:Nat} (h:GrO TS T sz mc w base l o D A i) (hb:Below w.heap.size w w'):GrO TS T sz mc w' base l o D A i:=
 ⟨own_below h.row hb,own_below h.all hb,h.ol,h.len,fun j hj=>⟨(h.views j hj).1.below hb,(h.views j hj).2⟩,fun i' h1 h2=>own_below (h.lists i' h1 h2) hb,h.apart⟩
theorem Gr.below {w w':World} {base:Nat} {l o:Value} {D A:List LD} {i q:Nat} {x:Value} {nx:Nat} (h:Gr TS T sz mc w base l o D A i q x nx) (hb:Below w.heap.size w w'):Gr TS T sz mc w' base l o D A i q x nx:=
 ⟨own_below h.row hb,own_below h.all hb,h.ol,h.len,fun j hj=>⟨(h.views j hj).1.below hb,(h.views j hj).2⟩,own_below h.own hb,h.xf,fun i' h1 h2=>own_below (h.lists i' h1 h2) hb,h.apart⟩
theorem GrO.start {w:World} {base:Nat} {l:Value} {D:List LD} (h:LsAt TS T sz w base l D (fun i=>rep mc i ((D[i]?.map LD.n).getD 0))):GrO TS T sz mc w base l (.slice none 0 0) D [] 0:=
 ⟨h.row,World.ownsRow_nil w base TS 1,fun k hk=>(by cases hk),rfl,fun j hj=>(by simp at hj),fun i' h1 _=>by have:=h.each i' h1;simpa [h1] using this,h.apart⟩
theorem GrO.enter {w:World} {base:Nat} {l o:Value} {D A:List LD} {i:Nat} (h:GrO TS T sz mc w base l o D A i) (hi:i<D.length):Gr TS T sz mc w base l o D A i 0 (D[i]).v (D[i]).n:=by
 refine⟨h.row,h.all,h.ol,h.len,fun j hj=>⟨(h.views j hj).1,fun k hk=>⟨fun⟨i',h1,h2,h3⟩=>(h.views j hj).2 k hk ⟨i',h1,by omega,h3⟩,fun hx=>?_⟩⟩,h.lists i hi (Nat.le_refl _),fun k hk=>?_,fun i' h1 h2=>h.lists i' h1 (by omega),h.apart⟩
 ·exact absurd ⟨i,hi,Nat.le_refl _,hx⟩ ((h.views j hj).2 k hk)
 ·rintro⟨i',h1,h2,h3⟩
  exact h.apart.ne hi h1 (by omega) hk h3
theorem Gr.push (hmc:∀i,(mc i).length=sz) (hne:TS≠T) {w w':World} {base:Nat} {l o o':Value} {D A:List LD} {i q:Nat} {x:Value} {nx:Nat} (h:Gr TS T sz mc w base l o D A i q x nx) (hq:q<6)
 (h1:w'.ownsRow base TS 1 o' (A.length+1) (A.map LD.v++[x])) (h2:AppAt w w' o o'):Gr TS T sz mc w' base l o' D (A++[⟨x,nx⟩]) i (q+1) x nx:=by
 have hk:∃F:Nat→Prop,Kept F w w'∧(∀k,F k→o.ownBlock=some k):=by
  rcases h2 with⟨g,a,b,c⟩|⟨a,b⟩
  ·exact⟨fun k=>some g=some k,kept_of_grown c,fun k hk=>a.trans hk⟩
  ·exact⟨fun _=>False,Kept.of_below (below_of_grown a),fun k hk=>hk.elim⟩
 obtain⟨F,hk,hF⟩:=hk
 refine⟨own_kept h.row hk (fun k h3 h4=>h.ol k (hF k h4) h3),by rw[List.map_append,List.length_append];exact h1,?_,by rw[List.length_append,h.len];rfl,?_,own_kept h.own hk (fun k h3 h4=>own_ne h.all h.own hne k (hF k h4) h3),h.xf,fun i' h3 h4=>own_kept (h.lists i' h3 h4) hk (fun k h5 h6=>own_ne h.all (h.lists i' h3 h4) hne k (hF k h6) h5),h.apart⟩
 ·intro k hk'
  rcases h2 with⟨g,a,b,c⟩|⟨a,b⟩
  ·rw[b] at hk'
   exact h.ol k (a.trans hk')
  ·intro hl
   have:=b k hk'
   have:=(World.ownsRow.lt h.row k hl).2
   omega
 ·intro j hj
  by_cases hja:j<A.length
  ·rw[List.getElem_append_left hja]
   obtain⟨v1,v2⟩:=h.views j hja
   refine⟨v1.kept hk (fun k h3 h4=>?_),v2⟩
   obtain⟨cs,h5⟩:=v1.ty k h3
   obtain⟨cs',h6⟩:=own_ty h.all k (hF k h4)
   rw[h5] at h6
   simp at h6
   exact hne h6.2.symm
  ·have hje:j=A.length:=by rw[List.length_append] at hj;simp at hj;omega
   subst hje
   rw[List.getElem_append_right (Nat.le_refl _)]
   simp only[Nat.sub_self,List.getElem_cons_zero]
   rw[h.len,show(6*i+q)/6=i by omega]
   exact⟨(Vw.of_own hmc h.own).kept hk (fun k h3 h4=>own_ne h.all h.own hne k (hF k h4) h3),fun k hk=>⟨h.xf k hk,fun _=>⟨rfl,Nat.le_refl _⟩⟩⟩
end
section
variable {K:Nat} {TS T:TypeId} {sz:Nat} {mc:Nat→List Value}
structure KrO (K:Nat) (TS T:TypeId) (sz:Nat) (mc:Nat→List Value) (w:World) (base:Nat) (l o:Value) (D:List LD) (A:List LD) (i:Nat):Prop where
 row:w.ownsRow base TS 1 l D.length (D.map LD.v)
 all:w.ownsRow base TS 1 o A.length (A.map LD.v)
 ol:∀k,o.ownBlock=some k→¬l.ownBlock=some k
 len:A.length=K*i
 views:∀j (hj:j<A.length),Vw T sz mc w (A[j]).v (A[j]).n (j/K)∧∀k,(A[j]).v.ownBlock=some k→¬FutL D i k
 lists:∀i' (h:i'<D.length),i≤i'→w.ownsRow base T sz (D[i']).v (D[i']).n (rep mc i' (D[i']).n)
 apart:ApartL D
structure Kr (K:Nat) (TS T:TypeId) (sz:Nat) (mc:Nat→List Value) (w:World) (base:Nat) (l o:Value) (D:List LD) (A:List LD) (i q:Nat) (x:Value) (nx:Nat):Prop where
 row:w.ownsRow base TS 1 l D.length (D.map LD.v)
 all:w.ownsRow base TS 1 o A.length (A.map LD.v)
 ol:∀k,o.ownBlock=some k→¬l.ownBlock=some k
 len:A.length=K*i+q
 views:∀j (hj:j<A.length),Vw T sz mc w (A[j]).v (A[j]).n (j/K)∧∀k,(A[j]).v.ownBlock=some k→¬FutL D (i+1) k∧(x.ownBlock=some k→j/K=i∧(A[j]).n≤nx)
 own:w.ownsRow base T sz x nx (rep mc i nx)
 xf:∀k,x.ownBlock=some k→¬FutL D (i+1) k
 lists:∀i' (h:i'<D.length),i+1≤i'→w.ownsRow base T sz (D[i']).v (D[i']).n (rep mc i' (D[i']).n)
 apart:ApartL D
theorem KrO.below {w w':World} {base:Nat} {l o:Value} {D A:List LD} {i:Nat} (h:KrO K TS T sz mc w base l o D A i) (hb:Below w.heap.size w w'):KrO K TS T sz mc w' base l o D A i:=
 ⟨own_below h.row hb,own_below h.all hb,h.ol,h.len,fun j hj=>⟨(h.views j hj).1.below hb,(h.views j hj).2⟩,fun i' h1 h2=>own_below (h.lists i' h1 h2) hb,h.apart⟩
theorem Kr.below {w w':World} {base:Nat} {l o:Value} {D A:List LD} {i q:Nat} {x:Value} {nx:Nat} (h:Kr K TS T sz mc w base l o D A i q x nx) (hb:Below w.heap.size w w'):Kr K TS T sz mc w' base l o D A i q x nx:=
 ⟨own_below h.row hb,own_below h.all hb,h.ol,h.len,fun j hj=>⟨(h.views j hj).1.below hb,(h.views j hj).2⟩,own_below h.own hb,h.xf,fun i' h1 h2=>own_below (h.lists i' h1 h2) hb,h.apart⟩
theorem KrO.start {w:World} {base:Nat} {l:Value} {D:List LD} (h:LsAt TS T sz w base l D (fun i=>rep mc i ((D[i]?.map LD.n).getD 0))):KrO K TS T sz mc w base l (.slice none 0 0) D [] 0:=
 ⟨h.row,World.ownsRow_nil w base TS 1,fun k hk=>(by cases hk),rfl,fun j hj=>(by simp at hj),fun i' h1 _=>by have:=h.each i' h1;simpa [h1] using this,h.apart⟩
theorem KrO.enter {w:World} {base:Nat} {l o:Value} {D A:List LD} {i:Nat} (h:KrO K TS T sz mc w base l o D A i) (hi:i<D.length):Kr K TS T sz mc w base l o D A i 0 (D[i]).v (D[i]).n:=by
 refine⟨h.row,h.all,h.ol,h.len,fun j hj=>⟨(h.views j hj).1,fun k hk=>⟨fun⟨i',h1,h2,h3⟩=>(h.views j hj).2 k hk ⟨i',h1,by omega,h3⟩,fun hx=>?_⟩⟩,h.lists i hi (Nat.le_refl _),fun k hk=>?_,fun i' h1 h2=>h.lists i' h1 (by omega),h.apart⟩
 ·exact absurd ⟨i,hi,Nat.le_refl _,hx⟩ ((h.views j hj).2 k hk)
 ·rintro⟨i',h1,h2,h3⟩
  exact h.apart.ne hi h1 (by omega) hk h3
theorem Kr.push (hmc:∀i,(mc i).length=sz) (hne:TS≠T) {w w':World} {base:Nat} {l o o':Value} {D A:List LD} {i q:Nat} {x:Value} {nx:Nat} (h:Kr K TS T sz mc w base l o D A i q x nx) (hq:q<K)
 (h1:w'.ownsRow base TS 1 o' (A.length+1) (A.map LD.v++[x])) (h2:AppAt w w' o o'):Kr K TS T sz mc w' base l o' D (A++[⟨x,nx⟩]) i (q+1) x nx:=by
 have hk:∃F:Nat→Prop,Kept F w w'∧(∀k,F k→o.ownBlock=some k):=by
  rcases h2 with⟨g,a,b,c⟩|⟨a,b⟩
  ·exact⟨fun k=>some g=some k,kept_of_grown c,fun k hk=>a.trans hk⟩
  ·exact⟨fun _=>False,Kept.of_below (below_of_grown a),fun k hk=>hk.elim⟩
 obtain⟨F,hk,hF⟩:=hk
 refine⟨own_kept h.row hk (fun k h3 h4=>h.ol k (hF k h4) h3),by rw[List.map_append,List.length_append];exact h1,?_,by rw[List.length_append,h.len];rfl,?_,own_kept h.own hk (fun k h3 h4=>own_ne h.all h.own hne k (hF k h4) h3),h.xf,fun i' h3 h4=>own_kept (h.lists i' h3 h4) hk (fun k h5 h6=>own_ne h.all (h.lists i' h3 h4) hne k (hF k h6) h5),h.apart⟩
 ·intro k hk'
  rcases h2 with⟨g,a,b,c⟩|⟨a,b⟩
  ·rw[b] at hk'
   exact h.ol k (a.trans hk')
  ·intro hl
   have:=b k hk'
   have:=(World.ownsRow.lt h.row k hl).2
   omega
 ·intro j hj
  by_cases hja:j<A.length
  ·rw[List.getElem_append_left hja]
   obtain⟨v1,v2⟩:=h.views j hja
   refine⟨v1.kept hk (fun k h3 h4=>?_),v2⟩
   obtain⟨cs,h5⟩:=v1.ty k h3
   obtain⟨cs',h6⟩:=own_ty h.all k (hF k h4)
   rw[h5] at h6
   simp at h6
   exact hne h6.2.symm
  ·have hje:j=A.length:=by rw[List.length_append] at hj;simp at hj;omega
   subst hje
   rw[List.getElem_append_right (Nat.le_refl _)]
   simp only[Nat.sub_self,List.getElem_cons_zero]
   rw[h.len,show(K*i+q)/K=i by rw[Nat.mul_add_div (by omega),Nat.div_eq_of_lt hq,Nat.add_zero]]
   exact⟨(Vw.of_own hmc h.own).kept hk (fun k h3 h4=>own_ne h.all h.own hne k (hF k h4) h3),fun k hk=>⟨h.xf k hk,fun _=>⟨rfl,Nat.le_refl _⟩⟩⟩
end
section
variable {P:Program} {ops:Array Oper} {Q:Exit→Act→World→Prop} {md:Region.Mode} {S:World→Prop} {z:Nat}
def UntH (P:Program) (md:Region.Mode) (ops:Array Oper) (Q:Exit→Act→World→Prop) (S:World→Prop) (z:Nat):Nat→Array Bool→Act→World→Prop
 |0,done,a,w=>Region.ready md ops done=[]∧Q .normal a w
 |n+1,done,a,w=>(Region.ready md ops done=[]→Q .normal a w)∧∀i∈Region.ready md ops done,wpOp P ops Q i (fun a' w'=>((done.setIfInBounds i true).getD z true=false→S w')∧UntH P md ops Q S z n (done.setIfInBounds i true) a' w') a w
theorem UntH.any:∀(n:Nat) (done:Array Bool) (a:Act) (w:World),UntH P md ops Q S z n done a w→wpAny P md ops Q n done a w
 |0,_,_,_,h=>h
 |n+1,_,_,_,h=>⟨h.1,fun i hi=>wpOp_mono (fun a' w' k=>UntH.any n _ a' w' k.2) (h.2 i hi)⟩
def upOf (md:Region.Mode) (ops:Array Oper) (i:Nat):List Nat:=
 (List.range ops.size).foldl (fun C c=>match ops[c]? with
   |some o=>if o.after.any (fun e=>Region.binds md e&&(e.on==i||C.contains e.on)) then c::C else C
   |none=>C) []
def upOk (md:Region.Mode) (ops:Array Oper) (done:Array Bool) (i z:Nat) (C:List Nat):Bool:=
 C.contains z&& !C.contains i&&C.all fun c=> !done.getD c true&&match ops[c]? with
  |some o=>o.after.any fun e=>Region.binds md e&&(e.on==i||C.contains e.on)
  |none=>false
theorem UntH.first {i:Nat} {oi:Oper} {v:Value} {C:List Nat} (hi:ops[i]? =some oi) (hzC:z∈C) (hiC:i∉C) (hC:∀c∈C,∃oc,ops[c]? =some oc∧∃e∈oc.after,Region.binds md e=true∧(e.on=i∨e.on∈C)) (hsel:∀(j:Nat) (o:Oper) cs b,ops[j]? =some o→o.op≠.select cs b) (hQ:∀c a w,Q (.panic c) (a.put oi.dst v) w→Q (.panic c) a w):
 ∀(n:Nat) (done:Array Bool) (a:Act) (w:World),(∀c∈C,done.getD c true=false)→(∀j oj,ops[j]? =some oj→j≠i→done.getD j true=false→(∀e∈oj.after,Region.binds md e=true→e.on≠i)→oi.apart ops oj=true)→
  i∈Region.ready md ops done→YieldsIf P ops S oi v a→S w→UntH P md ops Q S z n (done.setIfInBounds i true) (a.put oi.dst v) w→UntH P md ops Q S z (n+1) done a w:=by
 intro n
 induction n with
 |zero=>
  intro done a w _ _ hr hy hS H
  refine⟨fun h=>(by rw[h] at hr;cases hr),fun j hj=>?_⟩
  by_cases hji:j=i
  ·subst hji;exact hy.wpOp hi hS ⟨fun _=>hS,H⟩
  ·have h1:=ready_mono hj hji
   rw[H.1] at h1
   cases h1
 |succ n ih=>
  intro done a w hzu hfree hr hy hS H
  refine⟨fun h=>(by rw[h] at hr;cases hr),fun j hj=>?_⟩
  by_cases hji:j=i
  ·subst hji;exact hy.wpOp hi hS ⟨fun _=>hS,H⟩
  ·have h1:=H.2 j (ready_mono hj hji)
   obtain⟨hjun,oj,hoj,hall⟩:=mem_ready.1 hj
   have hun:¬done.getD i false=true:=fun h=>by
    have h0:=(mem_ready.1 hr).1
    rcases Nat.lt_or_ge i done.size with h'|h'
    ·simp[h'] at h0 h;rw[h0] at h;cases h
    ·simp[Array.getElem?_eq_none h'] at h
   have hno:∀e∈oj.after,Region.binds md e=true→e.on≠i:=fun e he hb heq=>hun (by rw[←heq];exact hall e he hb)
   have hjC:j∉C:=fun hjC=>by
    obtain⟨oc,h1,x,x1,x2,x3⟩:=hC j hjC
    rw[hoj] at h1
    cases h1
    rcases x3 with x3|x3
    ·exact hno x x1 x2 x3
    ·have h2:=hall x x1 x2
     have h3:=hzu _ x3
     rcases Nat.lt_or_ge x.on done.size with h'|h'
     ·simp[h'] at h2 h3;rw[h2] at h3;cases h3
     ·simp[Array.getElem?_eq_none h'] at h2
   have hzu2:∀c∈C,(done.setIfInBounds j true).getD c true=false:=fun c hc=>by
    have hne:j≠c:=fun e=>hjC (by rw[e];exact hc)
    rw[getD_set_ne true hne]
    exact hzu c hc
   have hzu3:((done.setIfInBounds i true).setIfInBounds j true).getD z true=false:=by
    have hn1:j≠z:=fun e=>hjC (by rw[e];exact hzC)
    have hn2:i≠z:=fun e=>hiC (by rw[e];exact hzC)
    rw[getD_set_ne true hn1,getD_set_ne true hn2]
    exact hzu z hzC
   have h2:=wpOp_putIf hoj (hfree j oj hoj hji hjun hno) (fun cs b=>hsel i oi cs b hi) (fun cs b=>hsel j oj cs b hoj) hQ hy h1
   have hfree':∀k ok,ops[k]? =some ok→k≠i→(done.setIfInBounds j true).getD k true=false→(∀e∈ok.after,Region.binds md e=true→e.on≠i)→oi.apart ops ok=true:=fun k ok hk hki hu hn=>by
    refine hfree k ok hk hki ?_ hn
    by_cases hjk:j=k
    ·subst hjk;exact hjun
    ·rw[getD_set_ne true hjk] at hu;exact hu
   refine wpOp_mono (fun a' w' h3=>?_) h2
   have hS':=h3.2.1 hzu3
   refine⟨fun _=>hS',ih (done.setIfInBounds j true) a' w' hzu2 hfree' (ready_mono hr (Ne.symm hji)) h3.1 hS' ?_⟩
   rw[Array.setIfInBounds_comm _ _ hji]
   exact h3.2.2
theorem UntH.take {i n:Nat} {oi:Oper} {done:Array Bool} {a:Act} {w:World} (d:Option Nat) (hi:ops[i]? =some oi) (hd:oi.dst=d) (hz:upOk md ops done i z (upOf md ops i)=true) (hs:Region.noSelect ops=true) (hf:Region.free md ops done i=true) (hr:(Region.ready md ops done).contains i=true)
 (hQ:∀v c a w,Q (.panic c) (a.put oi.dst v) w→Q (.panic c) a w) (hw:Region.wanted oi (yielded ops a.tmps)=true) (hS:S w) (h:∃v,(∀w',S w'→(execOp a.eval oi).run P w'=.ok (.value v) w')∧UntH P md ops Q S z n (done.setIfInBounds i true) (a.put d v) w):UntH P md ops Q S z (n+1) done a w:=by
 obtain⟨v,h1,h2⟩:=h
 rw[←hd] at h2
 revert hz
 generalize upOf md ops i=C
 intro hz
 simp only[upOk,Bool.and_eq_true,List.all_eq_true,Bool.not_eq_true',List.contains_iff_mem] at hz
 obtain⟨⟨hz1,hz2⟩,hz3⟩:=hz
 refine UntH.first (C:=C) hi hz1 ?_ ?_ (Region.noSelect_spec hs) (hQ v) n done a w (fun c hc=>(hz3 c hc).1) (Region.free_spec hi hf) (by simpa using hr) (.inl ⟨hw,h1⟩) hS h2
 ·intro h0
  rw[List.contains_iff_mem.2 h0] at hz2
  cases hz2
 ·intro c hc
  have h3:=(hz3 c hc).2
  cases ho:ops[c]? with
  |none=>rw[ho] at h3;cases h3
  |some o=>
   rw[ho] at h3
   obtain⟨k,hk,e⟩:=Array.any_eq_true.1 h3
   simp only[Bool.and_eq_true,Bool.or_eq_true,beq_iff_eq,List.contains_iff_mem] at e
   exact⟨o,rfl,o.after[k],Array.getElem_mem hk,e.1,e.2⟩
theorem UntH.tk {n:Nat} {oi:Oper} {done:Array Bool} {a:Act} {w:World} {v:Value} (i:Nat) (hi:ops[i]? =some oi) (d:Nat) (hS:S w) (h1:∀w',S w'→(execOp a.eval oi).run P w'=.ok (.value v) w') (h2:UntH P md ops Q S z n (done.setIfInBounds i true) (a.put (some d) v) w) (hd:oi.dst=some d:=by rfl) (hz:upOk md ops done i z (upOf md ops i)=true:=by kernel_rfl) (hs:Region.noSelect ops=true:=by kernel_rfl) (hf:Region.free md ops done i=true:=by kernel_rfl) (hr:(Region.ready md ops done).contains i=true:=by kernel_rfl) (hQ:∀v c a w,Q (.panic c) (a.put oi.dst v) w→Q (.panic c) a w:=by exact fun _ _ _ _ h=>h) (hw:Region.wanted oi (yielded ops a.tmps)=true:=by rfl):UntH P md ops Q S z (n+1) done a w:=UntH.take (some d) hi hd hz hs hf hr hQ hw hS ⟨v,h1,h2⟩
theorem UntH.one {i n:Nat} {done:Array Bool} {a:Act} {w:World} (hr:Region.ready md ops done=[i]) (h:wpOp P ops Q i (fun a' w'=>((done.setIfInBounds i true).getD z true=false→S w')∧UntH P md ops Q S z n (done.setIfInBounds i true) a' w') a w):UntH P md ops Q S z (n+1) done a w:=
 ⟨fun h0=>(by rw[hr] at h0;cases h0),fun j hj=>by
   rw[hr] at hj
   obtain rfl:=List.mem_singleton.1 hj
   exact h⟩
theorem UntH.step {i n:Nat} {o:Oper} {done:Array Bool} {a:Act} {w:World} (hr:Region.ready md ops done=[i]) (ho:ops[i]? =some o) (h:∀K':Act→World→Prop,Shut (∀a w,S w→UntH P md ops Q S z n (done.setIfInBounds i true) a w→K' a w)→if Region.wanted o (yielded ops a.tmps)=true then Oper.wp P o a w K' Q else K' (a.put o.dst undef) w):UntH P md ops Q S z (n+1) done a w:=
 UntH.one hr (wpOp_step ho (fun K' hK=>h K' (fun a w h1 h2=>hK a w ⟨fun _=>h1,h2⟩)))
theorem UntH.last {n:Nat} {o:Oper} {done:Array Bool} {a:Act} {w:World} (hr:Region.ready md ops done=[z]) (ho:ops[z]? =some o) (hr2:Region.ready md ops (done.setIfInBounds z true)=[]) (hz:(done.setIfInBounds z true).getD z true=true) (h:∀K':Act→World→Prop,Shut (∀a w,Q .normal a w→K' a w)→if Region.wanted o (yielded ops a.tmps)=true then Oper.wp P o a w K' Q else K' (a.put o.dst undef) w):UntH P md ops Q S z (n+1) done a w:=
 UntH.one hr (wpOp_step ho (fun K' hK=>h K' (fun a w h1=>hK a w ⟨fun h2=>(by rw[hz] at h2;cases h2),by
  cases n with
  |zero=>exact⟨hr2,h1⟩
  |succ n=>exact⟨fun _=>h1,fun j hj=>by rw[hr2] at hj;cases hj⟩⟩)))
theorem UntH.end {n:Nat} {done:Array Bool} {a:Act} {w:World} (hr:Region.ready md ops done=[]) (h:Q .normal a w):UntH P md ops Q S z n done a w:=by
 cases n with
 |zero=>exact⟨hr,h⟩
 |succ n=>exact⟨fun _=>h,fun j hj=>by rw[hr] at hj;cases hj⟩
theorem wp_unt {id:Nat} {a:Act} {w:World} (z:Nat) (hm:P.follows .mixedOrders=true) (h:UntH P .any ops Q S z ops.size (Array.replicate ops.size false) a w.drew):(Code.region id ops true).wp P Q a w:=wp_region_any hm (UntH.any _ _ _ _ h)
end
section
variable {P:Program} {ops:Array Oper} {Q:Exit→Act→World→Prop} {md:Region.Mode} {S:World→Prop} {z:Nat}
theorem UntH.stepf {i n:Nat} {o:Oper} {done:Array Bool} {a:Act} {w:World} (hr:Region.ready md ops done=[i]) (ho:ops[i]? =some o) (hz:(done.setIfInBounds i true).getD z true=true) (h:∀K':Act→World→Prop,Shut (∀a w,UntH P md ops Q S z n (done.setIfInBounds i true) a w→K' a w)→if Region.wanted o (yielded ops a.tmps)=true then Oper.wp P o a w K' Q else K' (a.put o.dst undef) w):UntH P md ops Q S z (n+1) done a w:=
 UntH.one hr (wpOp_step ho (fun K' hK=>h K' (fun a w h1=>hK a w ⟨fun h2=>(by rw[hz] at h2;cases h2),h1⟩)))
end
end Go.Proofs.Ytnddhkhmbjeefaa

