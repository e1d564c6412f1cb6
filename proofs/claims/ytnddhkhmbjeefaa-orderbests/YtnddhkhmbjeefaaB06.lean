/-
  The program's table of rows in memory. No condition.
-/
import Derived.Test.YtnddhkhmbjeefaaB03
import Derived.Test.YtnddhkhmbjeefaaB04
import Derived.Test.YtnddhkhmbjeefaaB05
namespace Go.Proofs.Ytnddhkhmbjeefaa
open Go.RowKit Go.Lib Go.Maps
theorem mapTurned_kept {w w':World} {b:Nat} (t:w.mapTurned w' b):Kept (fun k=>k=b) w w':=(kept_of_grown t.grown).mono (fun k hk=>by injection hk with hk;exact hk.symm)
theorem ty_ne {w:World} {a b:Nat} {cs cs':Array Value} {t t':TypeId} {f f':Nat×Nat} (h1:w.heap[a]? =some (.cells cs t f)) (h2:w.heap[b]? =some (.cells cs' t' f')) (h:t≠t'):a≠b:=fun e=>by
 subst e
 rw[h1] at h2
 simp at h2
 exact h h2.2.1
theorem map_ne {w:World} {a b:Nat} {cs:Array Value} {t:TypeId} {f:Nat×Nat} {es:_} {cl:_} (h1:w.heap[a]? =some (.cells cs t f)) (h2:w.heap[b]? =some (.map es cl)):a≠b:=fun e=>by
 subst e
 rw[h1] at h2
 cases h2
def MpT (kt:TypeId) (w:World) (b m:Nat) (A:List Lit):Prop:=∃D:DataW Unit,w.ownsMap Try.prog kt (plainElem Try.prog 21) b m D∧(∀kl,Maps.has D kl=true↔kl∈A)∧∀i (h:i<A.length),D.atKey A[i] (.lit (.int .i32 0))=.lit (.int .i32 (i:Int))
section
variable {kt:TypeId} {w w':World} {b m:Nat} {A:List Lit} {F:Nat→Prop}
theorem MpT.congr (h:MpT kt w b m A) (e:w'.heap[b]? =w.heap[b]?):MpT kt w' b m A:=by
 obtain⟨D,⟨es,cl,h1,h2⟩,h3⟩:=h
 exact⟨D,⟨es,cl,e.trans h1,h2⟩,h3⟩
theorem MpT.blk (h:MpT kt w b m A):∃es cl,w.heap[b]? =some (.map es cl):=by
 obtain⟨D,⟨es,cl,h1,h2⟩,h3⟩:=h
 exact⟨es,cl,h1⟩
theorem MpT.lt (h:MpT kt w b m A):b<w.heap.size:=by
 obtain⟨D,h1,_⟩:=h
 exact h1.lt
theorem MpT.made (kt:TypeId) (w:World):MpT kt (w.alloc (.map #[] 0)) w.heap.size 0 []:=
 ⟨.map [],World.ownsMap_made w Try.prog kt _,fun kl=>by simp[Maps.has_eq],fun i h=>by cases h⟩
theorem MpT.kept (h:MpT kt w b m A) (x:Kept F w w') (hF:¬F b):MpT kt w' b m A:=h.congr (x.block b h.lt hF)
theorem MpT.hit {D:DataW Unit} (h:∀i (h:i<A.length),D.atKey A[i] (.lit (.int .i32 0))=.lit (.int .i32 (i:Int))) {kl:Lit} {c:Int} (hc:D.atKey kl (.lit (.int .i32 0))=.lit (.int .i32 c)) (hm:kl∈A):∃i,∃h:i<A.length,A[i]=kl∧c=(i:Int):=by
 obtain⟨i,hi,e⟩:=List.mem_iff_getElem.1 hm
 refine⟨i,hi,e,?_⟩
 have:=h i hi
 rw[e,hc] at this
 injection this with this
 injection this with _ this
theorem MpT.put {kl:Lit} {D:DataW Unit} (hk:WideAt.IsKeyLit kl) (hn:kl∉A) (hm:IsMap D) (hh:∀kl,Maps.has D kl=true↔kl∈A) (ha:∀i (h:i<A.length),D.atKey A[i] (.lit (.int .i32 0))=.lit (.int .i32 (i:Int)))
 (h1:w'.ownsMap Try.prog kt (plainElem Try.prog 21) b (m+1) (D.put kl (.lit (.int .i32 (A.length:Int))))):MpT kt w' b (m+1) (A++[kl]):=by
 refine⟨_,h1,fun x=>?_,fun i hi=>?_⟩
 ·by_cases hx:x=kl
  ·subst hx
   rw[Maps.has_put_same hm hk]
   simp
  ·rw[Maps.has_put_other hx,hh x]
   simp[hx]
 ·by_cases hi2:i<A.length
  ·rw[List.getElem_append_left hi2,Maps.atKey_put_other (fun e=>hn (by rw[←e];exact List.getElem_mem hi2))]
   exact ha i hi2
  ·have:i=A.length:=by rw[List.length_append,List.length_singleton] at hi;omega
   subst this
   rw[List.getElem_append_right (Nat.le_refl _)]
   simp only[Nat.sub_self,List.getElem_cons_zero]
   exact Maps.atKey_put_same hm hk _ _
end
structure RD where
 b:Nat
 c:Nat
 r:List Rn
def RD.v (x:RD):Value:=.slice (some ⟨x.b,0,none⟩) x.r.length x.c
def rdC (Rs:List RD):List Value:=Rs.map RD.v
def rdR (Rs:List RD):List (List Rn):=Rs.map RD.r
def keyK (r:List Rn):Lit:=.string (keyR r)
structure RFit (r:List Rn):Prop where
 rn:∀y∈r,RnOk y
 pos:0<r.length
 le:r.length≤256
def RdF (x:RD):Prop:=RFit x.r∧x.r.length≤x.c∧x.c≤maxLen
def NoRun (w:World) (P:Nat→Prop):Prop:=∀k,P k→∀cs,w.heap[k]? ≠some (.cells cs 134 (0,0))
theorem RwB.keptT {w w':World} {b:Nat} {r:List Rn} {P:Nat→Prop} (h:RwB w b r) (hk:Kept P w w') (hn:NoRun w P):RwB w' b r:=h.kept hk (fun hp=>by
 obtain⟨cs,h1,_⟩:=h
 exact hn b hp cs h1)
structure TbX (w:World) (t:Nat) (Rs:List RD) (P:Nat→Prop) (rv:Value) (mb:Nat) (kv:Value) (kn:Nat) (kx:List Value):Prop where
 blk:w.heap[t]? =some (.cells #[rv,.map (some mb),kv] 112 (0,0))
 row:w.ownsRow 0 102 1 rv Rs.length (rdC Rs)
 rws:∀x∈Rs,RwB w x.b x.r
 map:MpT 9 w mb Rs.length (Rs.map fun x=>keyK x.r)
 key:w.ownsRow 0 5 1 kv kn kx
 pt:P t
 pr:∀k,rv.ownBlock=some k→P k
 pm:P mb
 pk:∀k,kv.ownBlock=some k→P k
 plt:∀k,P k→k<w.heap.size
 nr:NoRun w P
 fit:∀x∈Rs,RdF x
def TbAt (w:World) (t:Nat) (T:List (List Rn)) (P Q:Nat→Prop):Prop:=∃Rs rv mb kv kn kx,TbX w t Rs P rv mb kv kn kx∧rdR Rs=T∧∀x∈Rs,Q x.b
section
variable {w w':World} {t:Nat} {Rs:List RD} {T:List (List Rn)} {P F Q:Nat→Prop} {rv kv:Value} {mb kn:Nat} {kx:List Value}
theorem TbX.kept (h:TbX w t Rs P rv mb kv kn kx) (hk:Kept F w w') (hF:∀k,P k→¬F k) (hn:NoRun w F):TbX w' t Rs P rv mb kv kn kx:=
 ⟨(hk.block t (h.plt t h.pt) (hF t h.pt)).trans h.blk,own_kept h.row hk (fun k hb=>hF k (h.pr k hb)),fun x hx=>(h.rws x hx).keptT hk hn,h.map.kept hk (hF _ h.pm),own_kept h.key hk (fun k hb=>hF k (h.pk k hb)),h.pt,h.pr,h.pm,h.pk,fun k hp=>Nat.lt_of_lt_of_le (h.plt k hp) hk.size,fun k hp cs e=>h.nr k hp cs ((hk.block k (h.plt k hp) (hF k hp)).symm.trans e),h.fit⟩
theorem TbX.below (h:TbX w t Rs P rv mb kv kn kx) (x:Below w.heap.size w w'):TbX w' t Rs P rv mb kv kn kx:=h.kept (F:=fun _=>False) (Kept.of_below x) (fun _ _ h=>h) (fun _ h=>h.elim)
theorem TbAt.kept (h:TbAt w t T P Q) (hk:Kept F w w') (hF:∀k,P k→¬F k) (hn:NoRun w F):TbAt w' t T P Q:=by
 obtain⟨Rs,rv,mb,kv,kn,kx,h1,h2,h3⟩:=h
 exact⟨Rs,rv,mb,kv,kn,kx,h1.kept hk hF hn,h2,h3⟩
theorem TbAt.below (h:TbAt w t T P Q) (x:Below w.heap.size w w'):TbAt w' t T P Q:=h.kept (F:=fun _=>False) (Kept.of_below x) (fun _ _ h=>h) (fun _ h=>h.elim)
theorem TbAt.plt (h:TbAt w t T P Q) {k:Nat} (hp:P k):k<w.heap.size:=by
 obtain⟨Rs,rv,mb,kv,kn,kx,h1,h2,h3⟩:=h
 exact h1.plt k hp
theorem TbAt.nr (h:TbAt w t T P Q):NoRun w P:=by
 obtain⟨Rs,rv,mb,kv,kn,kx,h1,h2,h3⟩:=h
 exact h1.nr
theorem TbX.cells (h:TbX w t Rs P rv mb kv kn kx):w.cell? ⟨t,0,none⟩=some rv∧w.cell? ⟨t,1,none⟩=some (.map (some mb))∧w.cell? ⟨t,2,none⟩=some kv:=by
 refine⟨?_,?_,?_⟩<;>(rw[cell_of_row w t _ _ _ _ h.blk];rfl)
theorem TbX.keptQ (h:TbX w t Rs P rv mb kv kn kx) (hk:Kept F w w') (hF:∀k,P k→¬F k) (hQ:∀x∈Rs,¬F x.b):TbX w' t Rs P rv mb kv kn kx:=
 ⟨(hk.block t (h.plt t h.pt) (hF t h.pt)).trans h.blk,own_kept h.row hk (fun k hb=>hF k (h.pr k hb)),fun x hx=>(h.rws x hx).kept hk (hQ x hx),h.map.kept hk (hF _ h.pm),own_kept h.key hk (fun k hb=>hF k (h.pk k hb)),h.pt,h.pr,h.pm,h.pk,fun k hp=>Nat.lt_of_lt_of_le (h.plt k hp) hk.size,fun k hp cs e=>h.nr k hp cs ((hk.block k (h.plt k hp) (hF k hp)).symm.trans e),h.fit⟩
theorem TbAt.keptQ (h:TbAt w t T P Q) (hk:Kept F w w') (hF:∀k,P k→¬F k) (hQ:∀k,Q k→¬F k):TbAt w' t T P Q:=by
 obtain⟨Rs,rv,mb,kv,kn,kx,h1,h2,h3⟩:=h
 exact⟨Rs,rv,mb,kv,kn,kx,h1.keptQ hk hF (fun x hx=>hQ _ (h3 x hx)),h2,h3⟩
theorem TbAt.mono (h:TbAt w t T P Q) {Q':Nat→Prop} (hQ:∀k,Q k→Q' k):TbAt w t T P Q':=by
 obtain⟨Rs,rv,mb,kv,kn,kx,h1,h2,h3⟩:=h
 exact⟨Rs,rv,mb,kv,kn,kx,h1,h2,fun x hx=>hQ _ (h3 x hx)⟩
theorem TbAt.low (h:TbAt w t T P Q):TbAt w t T P (fun k=>Q k∧k<w.heap.size):=by
 obtain⟨Rs,rv,mb,kv,kn,kx,h1,h2,h3⟩:=h
 exact⟨Rs,rv,mb,kv,kn,kx,h1,h2,fun x hx=>⟨h3 x hx,(h1.rws x hx).lt⟩⟩
theorem TbAt.run (h:TbAt w t T P Q):TbAt w t T P (fun k=>∃cs,w.heap[k]? =some (.cells cs 134 (0,0))):=by
 obtain⟨Rs,rv,mb,kv,kn,kx,h1,h2,h3⟩:=h
 refine⟨Rs,rv,mb,kv,kn,kx,h1,h2,fun x hx=>?_⟩
 obtain⟨cs,h4,_⟩:=h1.rws x hx
 exact⟨cs,h4⟩
theorem own_cut0 {base size n cap:Nat} {e:TypeId} {ao:Option Addr} {xs:List Value} (h:w.ownsRow base e size (.slice ao n cap) n xs):w.ownsRow base e size (.slice ao 0 cap) 0 []:=by
 rcases h.2 with⟨e1,_⟩|⟨g,cap',cur,e1,hb,hg,h1,h2,h3,h4⟩
 ·injection e1 with e1 _ e2
  subst e1 e2
  exact World.ownsRow_nil _ _ _ _
 ·injection e1 with e1 _ e2
  subst e1 e2
  exact⟨by simp,.inr ⟨g,cap,cur,rfl,hb,hg,Nat.zero_le _,h2,h3,by simp⟩⟩
theorem own_blk0 {n cap:Nat} {ao:Option Addr}:(Value.slice ao 0 cap).ownBlock=(Value.slice ao n cap).ownBlock:=by cases ao<;>rfl
theorem TbX.rekey (h:TbX w t Rs P rv mb kv kn kx) {w1:World} {v0 kv':Value} {n':Nat} {x':List Value} (hv:v0.ownBlock=kv.ownBlock) (g:GrowAt w w1 v0 kv') (ho:w1.ownsRow 0 5 1 kv' n' x'):
 ∃P',TbX (w1.setCell ⟨t,2,none⟩ kv') t Rs P' rv mb kv' n' x'∧Kept P w (w1.setCell ⟨t,2,none⟩ kv')∧∀k,P' k→P k∨w.heap.size≤k:=by
 have k1:Kept (fun k=>kv.ownBlock=some k) w w1:=by rw[←hv];exact g.1
 have hkb:∀ {k cs tt f},kv.ownBlock=some k→w.heap[k]? =some (.cells cs tt f)→tt=5:=fun {k cs tt f} hk hc=>by
  obtain⟨cs',h5⟩:=own_ty h.key k hk
  rw[hc] at h5
  simp at h5
  exact h5.2.1
 obtain⟨es,cl,hmb⟩:=h.map.blk
 have ht:¬kv.ownBlock=some t:=fun hk=>absurd (hkb hk h.blk) (by decide)
 have hm:¬kv.ownBlock=some mb:=fun hk=>by
  obtain⟨cs',h5⟩:=own_ty h.key _ hk
  exact map_ne h5 hmb rfl
 have b1:=(k1.block t (lt_of_block h.blk) ht).trans h.blk
 have r1:w1.ownsRow 0 102 1 rv Rs.length (rdC Rs):=own_kept h.row k1 (fun k hk hF=>own_ne h.row h.key (by decide) k hk hF)
 have m1:=h.map.kept k1 hm
 have rw1:∀x∈Rs,RwB w1 x.b x.r:=fun x hx=>(h.rws x hx).kept k1 (fun hF=>by
  obtain⟨cs,h5,_⟩:=h.rws x hx
  exact absurd (hkb hF h5) (by decide))
 have k2:Kept (fun k=>k=t) w1 (w1.setCell ⟨t,2,none⟩ kv'):=Kept.setCell (F:=fun k=>k=t) (p:=⟨t,2,none⟩) (Kept.refl _ _) rfl _
 have b2:(w1.setCell ⟨t,2,none⟩ kv').heap[t]? =some (.cells #[rv,.map (some mb),kv'] 112 (0,0)):=by
  have:=block_setCell b1 2 kv'
  simpa using this
 obtain⟨es1,cl1,hmb1⟩:=m1.blk
 have row2:=own_kept r1 k2 (fun k hk e=>by
  obtain⟨cs',h5⟩:=own_ty r1 _ hk
  exact ty_ne h5 b1 (by decide) e)
 have key2:=own_kept ho k2 (fun k hk e=>by
  obtain⟨cs',h5⟩:=own_ty ho _ hk
  exact ty_ne h5 b1 (by decide) e)
 have map2:=m1.kept k2 (fun e=>map_ne b1 hmb1 e.symm)
 have rws2:∀x∈Rs,RwB (w1.setCell ⟨t,2,none⟩ kv') x.b x.r:=fun x hx=>(rw1 x hx).kept k2 (fun e=>by
  obtain⟨cs,h5,_⟩:=rw1 x hx
  exact ty_ne h5 b1 (by decide) e)
 have kk:Kept P w (w1.setCell ⟨t,2,none⟩ kv'):=(k1.mono (fun k hk=>h.pk k hk)).trans (k2.mono (fun k e=>by rw[e];exact h.pt))
 refine⟨fun k=>k=t∨rv.ownBlock=some k∨k=mb∨kv'.ownBlock=some k,⟨b2,row2,rws2,map2,key2,.inl rfl,fun k hk=>.inr (.inl hk),.inr (.inr (.inl rfl)),fun k hk=>.inr (.inr (.inr hk)),fun k hk=>?_,fun k hk cs e=>?_,h.fit⟩,kk,fun k hk=>?_⟩
 ·rcases hk with e|hk|e|hk
  ·rw[e];exact lt_of_block b2
  ·exact(World.ownsRow.lt row2 k hk).2
  ·rw[e];exact map2.lt
  ·exact(World.ownsRow.lt key2 k hk).2
 ·rcases hk with hk|hk|hk|hk
  ·subst hk;exact ty_ne b2 e (by decide) rfl
  ·obtain⟨cs',h5⟩:=own_ty row2 _ hk
   exact ty_ne h5 e (by decide) rfl
  ·subst hk
   obtain⟨es2,cl2,hmb2⟩:=map2.blk
   exact map_ne e hmb2 rfl
  ·obtain⟨cs',h5⟩:=own_ty key2 _ hk
   exact ty_ne h5 e (by decide) rfl
 ·rcases hk with e|hk|e|hk
  ·rw[e];exact .inl h.pt
  ·exact .inl (h.pr k hk)
  ·rw[e];exact .inl h.pm
  ·rcases g.2 k hk with h1|h1
   ·exact .inl (h.pk k (by rw[←hv];exact h1))
   ·exact .inr h1
theorem TbX.add (h:TbX w t Rs P rv mb kv kn kx) {w1 w2 w3 w4:World} {r:List Rn} {g c:Nat} {rv':Value} (t1:w.mapTurned w1 mb) (h1:MpT 9 w1 mb (Rs.length+1) ((Rs.map fun x=>keyK x.r)++[keyK r])) (x2:Below w1.heap.size w1 w2) (z:RwB w2 g r) (hg:w.heap.size≤g) (hq:∀x∈Rs,Q x.b) (hf:RdF ⟨g,c,r⟩) (h3:w3.ownsRow 0 102 1 rv' (Rs.length+1) (rdC Rs++[(RD.mk g c r).v])) (g3:w2.grownBy w3 rv.ownBlock) (l3:∀k,rv'.ownBlock=some k→rv.ownBlock=some k∨w2.heap.size≤k) (e4:w4=w3.setCell ⟨t,0,none⟩ rv'):
 ∃P',TbAt w4 t (rdR Rs++[r]) P' (fun k=>Q k∨w.heap.size≤k)∧Kept P w w4∧∀k,P' k→P k∨w.heap.size≤k:=by
 subst e4
 have k1:=mapTurned_kept t1
 obtain⟨es,cl,hmb⟩:=h.map.blk
 have htm:t≠mb:=map_ne h.blk hmb
 have b1:=(k1.block t (lt_of_block h.blk) htm).trans h.blk
 have row1:=own_kept h.row k1 (fun k hk e=>by
  obtain⟨cs',h5⟩:=own_ty h.row _ hk
  exact map_ne h5 hmb e)
 have key1:=own_kept h.key k1 (fun k hk e=>by
  obtain⟨cs',h5⟩:=own_ty h.key _ hk
  exact map_ne h5 hmb e)
 have rws1:∀x∈Rs,RwB w1 x.b x.r:=fun x hx=>(h.rws x hx).kept k1 (fun e=>by
  obtain⟨cs,h5,_⟩:=h.rws x hx
  exact map_ne h5 hmb e)
 have b2:=(x2.block t (lt_of_block b1)).trans b1
 have row2:=own_below row1 x2
 have key2:=own_below key1 x2
 have map2:MpT 9 w2 mb (Rs.length+1) ((Rs.map fun x=>keyK x.r)++[keyK r]):=h1.congr (x2.block mb h1.lt)
 have rws2:∀x∈Rs,RwB w2 x.b x.r:=fun x hx=>(rws1 x hx).below x2
 have k3:Kept (fun k=>rv.ownBlock=some k) w2 w3:=kept_of_grown g3
 obtain⟨es2,cl2,hmb2⟩:=map2.blk
 have hrb:∀ {k cs tt f},rv.ownBlock=some k→w2.heap[k]? =some (.cells cs tt f)→tt=102:=fun {k cs tt f} hk hc=>by
  obtain⟨cs',h5⟩:=own_ty row2 k hk
  rw[hc] at h5
  simp at h5
  exact h5.2.1
 have b3:=(k3.block t (lt_of_block b2) (fun hk=>absurd (hrb hk b2) (by decide))).trans b2
 have key3:=own_kept key2 k3 (fun k hk hF=>own_ne key2 row2 (by decide) k hk hF)
 have map3:=map2.kept k3 (fun hk=>by
  obtain⟨cs',h5⟩:=own_ty row2 _ hk
  exact map_ne h5 hmb2 rfl)
 have rwk3:∀ {b:Nat} {r:List Rn},RwB w2 b r→RwB w3 b r:=fun {b r} hh=>hh.kept k3 (fun hF=>by
  obtain⟨cs,h5,_⟩:=hh
  exact absurd (hrb hF h5) (by decide))
 have k4:Kept (fun k=>k=t) w3 (w3.setCell ⟨t,0,none⟩ rv'):=Kept.setCell (F:=fun k=>k=t) (p:=⟨t,0,none⟩) (Kept.refl _ _) rfl _
 have b4:(w3.setCell ⟨t,0,none⟩ rv').heap[t]? =some (.cells #[rv',.map (some mb),kv] 112 (0,0)):=by
  have:=block_setCell b3 0 rv'
  simpa using this
 obtain⟨es3,cl3,hmb3⟩:=map3.blk
 have row4:=own_kept h3 k4 (fun k hk e=>by
  obtain⟨cs',h5⟩:=own_ty h3 _ hk
  exact ty_ne h5 b3 (by decide) e)
 have key4:=own_kept key3 k4 (fun k hk e=>by
  obtain⟨cs',h5⟩:=own_ty key3 _ hk
  exact ty_ne h5 b3 (by decide) e)
 have map4:=map3.kept k4 (fun e=>map_ne b3 hmb3 e.symm)
 have rwk4:∀ {b:Nat} {r:List Rn},RwB w2 b r→RwB (w3.setCell ⟨t,0,none⟩ rv') b r:=fun {b r} hh=>(rwk3 hh).kept k4 (fun e=>by
  obtain⟨cs,h5,_⟩:=rwk3 hh
  exact ty_ne h5 b3 (by decide) e)
 have kk:Kept P w (w3.setCell ⟨t,0,none⟩ rv'):=(((k1.mono (fun k e=>by rw[e];exact h.pm)).trans (Kept.of_below x2)).trans (k3.mono (fun k hk=>h.pr k hk))).trans (k4.mono (fun k e=>by rw[e];exact h.pt))
 have hs2:w.heap.size≤w2.heap.size:=Nat.le_trans k1.size x2.size
 refine⟨fun k=>k=t∨rv'.ownBlock=some k∨k=mb∨kv.ownBlock=some k,⟨Rs++[⟨g,c,r⟩],rv',mb,kv,kn,kx,⟨b4,by rw[List.length_append];simpa [rdC] using row4,fun x hx=>?_,by rw[List.length_append,List.map_append];exact map4,key4,.inl rfl,fun k hk=>.inr (.inl hk),.inr (.inr (.inl rfl)),fun k hk=>.inr (.inr (.inr hk)),fun k hk=>?_,fun k hk cs e=>?_,fun x hx=>?_⟩,by simp[rdR],fun x hx=>?_⟩,kk,fun k hk=>?_⟩
 ·rcases List.mem_append.1 hx with hx|hx
  ·exact rwk4 (rws2 x hx)
  ·obtain rfl:=List.mem_singleton.1 hx
   exact rwk4 z
 ·rcases hk with e|hk|e|hk
  ·rw[e];exact lt_of_block b4
  ·exact(World.ownsRow.lt row4 k hk).2
  ·rw[e];exact map4.lt
  ·exact(World.ownsRow.lt key4 k hk).2
 ·rcases hk with hk|hk|hk|hk
  ·subst hk;exact ty_ne b4 e (by decide) rfl
  ·obtain⟨cs',h5⟩:=own_ty row4 _ hk
   exact ty_ne h5 e (by decide) rfl
  ·subst hk
   obtain⟨es2,cl2,hmb2⟩:=map4.blk
   exact map_ne e hmb2 rfl
  ·obtain⟨cs',h5⟩:=own_ty key4 _ hk
   exact ty_ne h5 e (by decide) rfl
 ·rcases List.mem_append.1 hx with hx|hx
  ·exact h.fit x hx
  ·obtain rfl:=List.mem_singleton.1 hx
   exact hf
 ·rcases List.mem_append.1 hx with hx|hx
  ·exact .inl (hq x hx)
  ·obtain rfl:=List.mem_singleton.1 hx
   exact .inr hg
 ·rcases hk with e|hk|e|hk
  ·rw[e];exact .inl h.pt
  ·rcases l3 k hk with h5|h5
   ·exact .inl (h.pr k h5)
   ·exact .inr (Nat.le_trans hs2 h5)
  ·rw[e];exact .inl h.pm
  ·exact .inl (h.pk k hk)
end
end Go.Proofs.Ytnddhkhmbjeefaa

