/-
  The program's table of rows in memory. No condition.
-/
import Derived.Test.YtnddhkhmbjeefaaC03
import Derived.Test.YtnddhkhmbjeefaaC04
import Derived.Test.YtnddhkhmbjeefaaC05
namespace Go.Proofs.Ytnddhkhmbjeefaa
open Go.RowKit Go.Lib Go.Maps
theorem mapTurned_kept {w w':World} {b:Nat} (t:w.mapTurned w' b):Kept (fun k=>k=b) w w':=(kept_of_grown t.grown).mono (fun k hk=>by injection hk with hk;exact hk.symm)
theorem ty_ne {w:World} {a b:Nat} {cs cs':Array Value} {t t':TypeId} {f f':Nat×Nat} (h1:w.heap[a]? =some (.cells cs t f)) (h2:w.heap[b]? =some (.cells cs' t' f')) (h:t≠t'):a≠b:=fun e=>by
 subst e
 rw[h1] at h2
 simp at h2
 exact h h2.2.1
theorem map_ne {w:World} {a b:Nat} {cs:Array Value} {t:TypeId} {f:Nat×Nat} {es:_} {cl:_} (h1:w.heap[a]? =some (.cells cs t f)) (h2:w.heap[b]? =some (.map es cl)):a≠b:=fun e=>by
 subst e
 rw[h1] at h2
 cases h2
def MpT (kt:TypeId) (w:World) (b m:Nat) (A:List Lit):Prop:=∃D:DataW Unit,w.ownsMap Try.prog kt (plainElem Try.prog 21) b m D∧(∀kl,Maps.has D kl=true↔kl∈A)∧∀i (h:i<A.length),D.atKey A[i] (.lit (.int .i32 0))=.lit (.int .i32 (i:Int))
section
variable {kt:TypeId} {w w':World} {b m:Nat} {A:List Lit} {F:Nat→Prop}
theorem MpT.congr (h:MpT kt w b m A) (e:w'.heap[b]? =w.heap[b]?):MpT kt w' b m A:=by
 obtain⟨D,⟨es,cl,h1,h2⟩,h3⟩:=h
 exact⟨D,⟨es,cl,e.trans h1,h2⟩,h3⟩
theorem MpT.blk (h:MpT kt w b m A):∃es cl,w.heap[b]? =some (.map es cl):=by
 obtain⟨D,⟨es,cl,h1,h2⟩,h3⟩:=h
 exact⟨es,cl,h1⟩
theorem MpT.lt (h:MpT kt w b m A):b<w.heap.size:=by
 obtain⟨D,h1,_⟩:=h
 exact h1.lt
theorem MpT.made (kt:TypeId) (w:World):MpT kt (w.alloc (.map #[] 0)) w.heap.size 0 []:=
 ⟨.map [],World.ownsMap_made w Try.prog kt _,fun kl=>by simp[Maps.has_eq],fun i h=>by cases h⟩
theorem MpT.kept (h:MpT kt w b m A) (x:Kept F w w') (hF:¬F b):MpT kt w' b m A:=h.congr (x.block b h.lt hF)
theorem MpT.hit {D:DataW Unit} (h:∀i (h:i<A.length),D.atKey A[i] (.lit (.int .i32 0))=.lit (.int .i32 (i:Int))) {kl:Lit} {c:Int} (hc:D.atKey kl (.lit (.int .i32 0))=.lit (.int .i32 c)) (hm:kl∈A):∃i,∃h:i<A.length,A[i]=kl∧c=(i:Int):=by
 obtain⟨i,hi,e⟩:=List.mem_iff_getElem.1 hm
 refine⟨i,hi,e,?_⟩
 have:=h i hi
 rw[e,hc] at this
 injection this with this
 injection this with _ this
theorem MpT.put {kl:Lit} {D:DataW Unit} (hk:WideAt.IsKeyLit kl) (hn:kl∉A) (hm:IsMap D) (hh:∀kl,Maps.has D kl=true↔kl∈A) (ha:∀i (h:i<A.length),D.atKey A[i] (.lit (.int .i32 0))=.lit (.int .i32 (i:Int)))
 (h1:w'.ownsMap Try.prog kt (plainElem Try.prog 21) b (m+1) (D.put kl (.lit (.int .i32 (A.length:Int))))):MpT kt w' b (m+1) (A++[kl]):=by
 refine⟨_,h1,fun x=>?_,fun i hi=>?_⟩
 ·by_cases hx:x=kl
  ·subst hx
   rw[Maps.has_put_same hm hk]
   simp
  ·rw[Maps.has_put_other hx,hh x]
   simp[hx]
 ·by_cases hi2:i<A.length
  ·rw[List.getElem_append_left hi2,Maps.atKey_put_other (fun e=>hn (by rw[←e];exact List.getElem_mem hi2))]
   exact ha i hi2
  ·have:i=A.length:=by rw[List.length_append,List.length_singleton] at hi;omega
   subst this
   rw[List.getElem_append_right (Nat.le_refl _)]
   simp only[Nat.sub_self,List.getElem_cons_zero]
   exact Maps.atKey_put_same hm hk _ _
end
structure RD where
 b:Nat
 c:Nat
 r:List Rn
def RD.v (x:RD):Value:=.slice (some ⟨x.b,0,none⟩) x.r.length x.c
def rdC (Rs:List RD):List Value:=Rs.map RD.v
def rdR (Rs:List RD):List (List Rn):=Rs.map RD.r
def keyK (r:List Rn):Lit:=.string (keyR r)
structure RFit (r:List Rn):Prop where
 rn:∀y∈r,RnOk y
 pos:0<r.length
 le:r.length≤256
def RdF (x:RD):Prop:=RFit x.r∧x.r.length≤x.c∧x.c≤maxLen
def NoRun (w:World) (P:Nat→Prop):Prop:=∀k,P k→∀cs,w.heap[k]? ≠some (.cells cs 134 (0,0))
theorem RwB.keptT {w w':World} {b:Nat} {r:List Rn} {P:Nat→Prop} (h:RwB w b r) (hk:Kept P w w') (hn:NoRun w P):RwB w' b r:=h.kept hk (fun hp=>by
 obtain⟨cs,h1,_⟩:=h
 exact hn b hp cs h1)
structure TbX (w:World) (t:Nat) (Rs:List RD) (P:Nat→Prop) (rv:Value) (mb:Nat) (kv:Value) (kn:Nat) (kx:List Value):Prop where
 blk:w.heap[t]? =some (.cells #[rv,.map (some mb),kv] 112 (0,0))
 row:w.ownsRow 0 102 1 rv Rs.length (rdC Rs)
 rws:∀x∈Rs,RwB w x.b x.r
 map:MpT 9 w mb Rs.length (Rs.map fun x=>keyK x.r)
 key:w.ownsRow 0 5 1 kv kn kx
 pt:P t
 pr:∀k,rv.ownBlock=some k→P k
 pm:P mb
 pk:∀k,kv.ownBlock=some k→P k
 plt:∀k,P k→k<w.heap.size
 nr:NoRun w P
 fit:∀x∈Rs,RdF x
def TbAt (w:World) (t:Nat) (T:List (List Rn)) (P Q:Nat→Prop):Prop:=∃Rs rv mb kv kn kx,TbX w t Rs P rv mb kv kn kx∧rdR Rs=T∧∀x∈Rs,Q x.b
section
variable {w w':World} {t:Nat} {Rs:List RD} {T:List (List Rn)} {P F Q:Nat→Prop} {rv kv:Value} {mb kn:Nat} {kx:List Value}
theorem TbX.kept (h:TbX w t Rs P rv mb kv kn kx) (hk:Kept F w w') (hF:∀k,P k→¬F k) (hn:NoRun w F):TbX w' t Rs P rv mb kv kn kx:=
 ⟨(hk.block t (h.plt t h.pt) (hF t h.pt)).trans h.blk,own_kept h.row hk (fun k hb=>hF k (h.pr k hb)),fun x hx=>(h.rws x hx).keptT hk hn,h.map.kept hk (hF _ h.pm),own_kept h.key hk (fun k hb=>hF k (h.pk k hb)),h.pt,h.pr,h.pm,h.pk,fun k hp=>Nat.lt_of_lt_of_le (h.plt k hp) hk.size,fun k hp cs e=>h.nr k hp cs ((hk.block k (h.plt k hp) (hF k hp)).symm.trans e),h.fit⟩
theorem TbX.below (h:TbX w t Rs P rv mb kv kn kx) (x:Below w.heap.size w w'):TbX w' t Rs P rv mb kv kn kx:=h.kept (F:=fun _=>False) (Kept.of_below x) (fun _ _ h=>h) (fun _ h=>h.elim)
theorem TbAt.kept (h:TbAt w t T P Q) (hk:Kept F w w') (hF:∀k,P k→¬F k) (hn:NoRun w F):TbAt w' t T P Q:=by
 obtain⟨Rs,rv,mb,kv,kn,kx,h1,h2,h3⟩:=h
 exact⟨Rs,rv,mb,kv,kn,kx,h1.kept hk hF hn,h2,h3⟩
theorem TbAt.below (h:TbAt w t T P Q) (x:Below w.heap.size w w'):TbAt w' t T P Q:=h.kept (F:=fun _=>False) (Kept.of_below x) (fun _ _ h=>h) (fun _ h=>h.elim)
theorem TbAt.plt (h:TbAt w t T P Q) {k:Nat} (hp:P k):k<w.heap.size:=by
 obtain⟨Rs,rv,mb,kv,kn,kx,h1,h2,h3⟩:=h
 exact h1.plt k hp
theorem TbAt.nr (h:TbAt w t T P Q):NoRun w P:=by
 obtain⟨Rs,rv,mb,kv,kn,kx,h1,h2,h3⟩:=h
 exact h1.nr
theorem TbX.cells (h:TbX w t Rs P rv mb kv kn kx):w.cell? ⟨t,0,none⟩=some rv∧w.cell? ⟨t,1,none⟩=some (.map (some mb))∧w.cell? ⟨t,2,none⟩=some kv:=by
 refine⟨?_,?_,?_⟩<;>(rw[cell_of_row w t _ _ _ _ h.blk];rfl)
theorem TbX.keptQ (h:TbX w t Rs P rv mb kv kn kx) (hk:Kept F w w') (hF:∀k,P k→¬F k) (hQ:∀x∈Rs,¬F x.b):TbX w' t Rs P rv mb kv kn kx:=
 ⟨(hk.block t (h.plt t h.pt) (hF t h.pt)).trans h.blk,own_kept h.row hk (fun k hb=>hF k (h.pr k hb)),fun x hx=>(h.rws x hx).kept hk (hQ x hx),h.map.kept hk (hF _ h.pm),own_kept h.key hk (fun k hb=>hF k (h.pk k hb)),h.pt,h.pr,h.pm,h.pk,fun k hp=>Nat.lt_of_lt_of_le (h.plt k hp) hk.size,fun k hp cs e=>h.nr k hp cs ((hk.block k (h.plt k hp) (hF k hp)).symm.trans e),h.fit⟩
theorem TbAt.keptQ (h:TbAt w t T P Q) (hk:Kept F w w') (hF:∀k,P k→¬F k) (hQ:∀k,Q k→¬F k):TbAt w' t T P Q:=by
 obtain⟨Rs,rv,mb,kv,kn,kx,h1,h2,h3⟩:=h
 exact⟨Rs,rv,mb,kv,kn,kx,h1.keptQ hk hF (fun x hx=>hQ _ (h3 x hx)),h2,h3⟩
theorem TbAt.mono (h:TbAt w t T P Q) {Q':Nat→Prop} (hQ:∀k,Q k→Q' k):TbAt w t T P Q':=by
 obtain⟨Rs,rv,mb,kv,kn,kx,h1,h2,h3⟩:=h
 exact⟨Rs,rv,mb,kv,kn,kx,h1,h2,fun x hx=>hQ _ (h3 x hx)⟩
theorem TbAt.low (h:TbAt w t T P Q):TbAt w t T P (fun k=>Q k∧k<w.heap.size):=by
 obtain⟨Rs,rv,mb,kv,kn,kx,h1,h2,h3⟩:=h
 exact⟨Rs,rv,mb,kv,kn,kx,h1,h2,fun x hx=>⟨h3 x hx,(h1.rws x hx).lt⟩⟩
theorem TbAt.run (h:TbAt w t T P Q):TbAt w t T P (fun k=>∃cs,w.heap[k]? =some (.cells cs 134 (0,0))):=by
 obtain⟨Rs,rv,mb,kv,kn,kx,h1,h2,h3⟩:=h
 refine⟨Rs,rv,mb,kv,kn,kx,h1,h2,fun x hx=>?_⟩
 obtain⟨cs,h4,_⟩:=h1.rws x hx
 exact⟨cs,h4⟩
theorem own_cut0 {base size n cap:Nat} {e:TypeId} {ao:Option Addr} {xs:List Value} (h:w.ownsRow base e size (.slice ao n cap) n xs):w.ownsRow base e size (.slice ao 0 cap) 0 []:=by
 rcases h.2 with⟨e1,_⟩|⟨g,cap',cur,e1,hb,hg,h1,h2,h3,h4⟩
 ·injection e1 with e1 _ e2
  subst e1 e2
  exact World.ownsRow_nil _ _ _ _
 ·injection e1 with e1 _ e2
  subst e1 e2
  exact⟨by simp,.inr ⟨g,cap,cur,rfl,hb,hg,Nat.zero_le _,h2,h3,by simp⟩⟩
theorem own_blk0 {n cap:Nat} {ao:Option Addr}:(Value.slice ao 0 cap).ownBlock=(Value.slice ao n cap).ownBlock:=by cases ao<;>rfl
theorem TbX.rekey (h:TbX w t Rs P rv mb kv kn kx) {w1:World} {v0 kv':Value} {n':Nat} {x':List Value} (hv:v0.ownBlock=kv.ownBlock) (g:GrowAt w w1 v0 kv') (ho:w1.ownsRow 0 5 1 kv' n' x'):
 ∃P',TbX (w1.setCell ⟨t,2,none⟩ kv') t Rs P' rv mb kv' n' x'∧Kept P w (w1.setCell ⟨t,2,none⟩ kv')∧∀k,P' k→P k∨w.heap.size≤k:=by
 have k1:Kept (fun k=>kv.ownBlock=some k) w w1:=by rw[←hv];exact g.1
 have hkb:∀ {k cs tt f},kv.ownBlock=some k→w.heap[k]? =some (.cells cs tt f)→tt=5:=fun {k cs tt f} hk hc=>by
  obtain⟨cs',h5⟩:=own_ty h.key k hk
  rw[hc] at h5
  simp at h5
  exact h5.2.1
 obtain⟨es,cl,hmb⟩:=h.map.blk
 have ht:¬kv.ownBlock=some t:=fun hk=>absurd (hkb hk h.blk) (by decide)
 have hm:¬kv.ownBlock=some mb:=fun hk=>by
  obtain⟨cs',h5⟩:=own_ty h.key _ hk
  exact map_ne h5 hmb rfl
 have b1:=(k1.block t (lt_of_block h.blk) ht).trans h.blk
 have r1:w1.ownsRow 0 102 1 rv Rs.length (rdC Rs):=own_kept h.row k1 (fun k hk hF=>own_ne h.row h.key (by decide) k hk hF)
 have m1:=h.map.kept k1 hm
 have rw1:∀x∈Rs,RwB w1 x.b x.r:=fun x hx=>(h.rws x hx).kept k1 (fun hF=>by
  obtain⟨cs,h5,_⟩:=h.rws x hx
  exact absurd (hkb hF h5) (by decide))
 have k2:Kept (fun k=>k=t) w1 (w1.setCell ⟨t,2,none⟩ kv'):=Kept.setCell (F:=fun k=>k=t) (p:=⟨t,2,none⟩) (Kept.refl _ _) rfl _
 have b2:(w1.setCell ⟨t,2,none⟩ kv').heap[t]? =some (.cells #[rv,.map (some mb),kv'] 112 (0,0)):=by
  have:=block_setCell b1 2 kv'
  simpa using this
 obtain⟨es1,cl1,hmb1⟩:=m1.blk
 have row2:=own_kept r1 k2 (fun k hk e=>by
  obtain⟨cs',h5⟩:=own_ty r1 _ hk
  exact ty_ne h5 b1 (by decide) e)
 have key2:=own_kept ho k2 (fun k hk e=>by
  obtain⟨cs',h5⟩:=own_ty ho _ hk
  exact ty_ne h5 b1 (by decide) e)
 have map2:=m1.kept k2 (fun e=>map_ne b1 hmb1 e.symm)
 have rws2:∀x∈Rs,RwB (w1.setCell ⟨t,2,none⟩ kv') x.b x.r:=fun x hx=>(rw1 x hx).kept k2 (fun e=>by
  obtain⟨cs,h5,_⟩:=rw1 x hx
  exact ty_ne h5 b1 (by decide) e)
 have kk:Kept P w (w1.setCell ⟨t,2,none⟩ kv'):=(k1.mono (fun k hk=>h.pk k hk)).trans (k2.mono (fun k e=>by rw[e];exact h.pt))
 refine⟨fun k=>k=t∨rv.ownBlock=some k∨k=mb∨kv'.ownBlock=some k,⟨b2,row2,rws2,map2,key2,.inl rfl,fun k hk=>.inr (.inl hk),.inr (.inr (.inl rfl)),fun k hk=>.inr (.inr (.inr hk)),fun k hk=>?_,fun k hk cs e=>?_,h.fit⟩,kk,fun k hk=>?_⟩
 ·rcases hk with e|hk|e|hk
  ·rw[e];exact lt_of_block b2
  ·exact(World.ownsRow.lt row2 k hk).2
  ·rw[e];exact map2.lt
  ·exact(World.ownsRow.lt key2 k hk).2
 ·rcases hk with hk|hk|hk|hk
  ·subst hk;exact ty_ne b2 e (by decide) rfl
  ·obtain⟨cs',h5⟩:=own_ty row2 _ hk
   exact ty_ne h5 e (by decide) rfl
  ·subst hk
   obtain⟨es2,cl2,hmb2⟩:=map2.blk
   exact map_ne e hmb2 rfl
  ·obtain⟨cs',h5⟩:=own_ty key2 _ hk
   exact ty_ne h5 e (by decide) rfl
 ·rcases hk with e|hk|e|hk
  ·rw[e];exact .inl h.pt
  ·exact .inl (h.pr k hk)
  ·rw[e];exact .inl h.pm
  ·rcases g.2 k hk with h1|h1
   ·exact .inl (h.pk k (by rw[←hv];exact h1))
   ·exact .inr h1
theorem TbX.add (h:TbX w t Rs P rv mb kv kn kx) {w1 w2 w3 w4:World} {r:List Rn} {g c:Nat} {rv':Value} (t1:w.mapTurned w1 mb) (h1:MpT 9 w1 mb (Rs.length+1) ((Rs.map fun x=>keyK x.r)++[keyK r])) (x2:Below w1.heap.size w1 w2) (z:RwB w2 g r) (hg:w.heap.size≤g) (hq:∀x∈Rs,Q x.b) (hf:RdF ⟨g,c,r⟩) (h3:w3.ownsRow 0 102 1 rv' (Rs.length+1) (rdC Rs++[(RD.mk g c r).v])) (g3:w2.grownBy w3 rv.ownBlock) (l3:∀k,rv'.ownBlock=some k→rv.ownBlock=some k∨w2.heap.size≤k) (e4:w4=w3.setCell ⟨t,0,none⟩ rv'):
 ∃P',TbAt w4 t (rdR Rs++[r]) P' (fun k=>Q k∨w.heap.size≤k)∧Kept P w w4∧∀k,P' k→P k∨w.heap.size≤k:=by
 subst e4
 have k1:=mapTurned_kept t1
 obtain⟨es,cl,hmb⟩:=h.map.blk
 have htm:t≠mb:=map_ne h.blk hmb
 have b1:=(k1.block t (lt_of_block h.blk) htm).trans h.blk
 have row1:=own_kept h.row k1 (fun k hk e=>by
  obtain⟨cs',h5⟩:=own_ty h.row _ hk
  exact map_ne h5 hmb e)
 have key1:=own_kept h.key k1 (fun k hk e=>by
  obtain⟨cs',h5⟩:=own_ty h.key _ hk
  exact map_ne h5 hmb e)
 have rws1:∀x∈Rs,RwB w1 x.b x.r:=fun x hx=>(h.rws x hx).kept k1 (fun e=>by
  obtain⟨cs,h5,_⟩:=h.rws x hx
  exact map_ne h5 hmb e)
 have b2:=(x2.block t (lt_of_block b1)).trans b1
 have row2:=own_below row1 x2
 have key2:=own_below key1 x2
 have map2:MpT 9 w2 mb (Rs.length+1) ((Rs.map fun x=>keyK x.r)++[keyK r]):=h1.congr (x2.block mb h1.lt)
 have rws2:∀x∈Rs,RwB w2 x.b x.r:=fun x hx=>(rws1 x hx).below x2
 have k3:Kept (fun k=>rv.ownBlock=some k) w2 w3:=kept_of_grown g3
 obtain⟨es2,cl2,hmb2⟩:=map2.blk
 have hrb:∀ {k cs tt f},rv.ownBlock=some k→w2.heap[k]? =some (.cells cs tt f)→tt=102:=fun {k cs tt f} hk hc=>by
  obtain⟨cs',h5⟩:=own_ty row2 k hk
  rw[hc] at h5
  simp at h5
  exact h5.2.1
 have b3:=(k3.block t (lt_of_block b2) (fun hk=>absurd (hrb hk b2) (by decide))).trans b2
 have key3:=own_kept key2 k3 (fun k hk hF=>own_ne key2 row2 (by decide) k hk hF)
 have map3:=map2.kept k3 (fun hk=>by
  obtain⟨cs',h5⟩:=own_ty row2 _ hk
  exact map_ne h5 hmb2 rfl)
 have rwk3:∀ {b:Nat} {r:List Rn},RwB w2 b r→RwB w3 b r:=fun {b r} hh=>hh.kept k3 (fun hF=>by
  obtain⟨cs,h5,_⟩:=hh
  exact absurd (hrb hF h5) (by decide))
 have k4:Kept (fun k=>k=t) w3 (w3.setCell ⟨t,0,none⟩ rv'):=Kept.setCell (F:=fun k=>k=t) (p:=⟨t,0,none⟩) (Kept.refl _ _) rfl _
 have b4:(w3.setCell ⟨t,0,none⟩ rv').heap[t]? =some (.cells #[rv',.map (some mb),kv] 112 (0,0)):=by
  have:=block_setCell b3 0 rv'
  simpa using this
 obtain⟨es3,cl3,hmb3⟩:=map3.blk
 have row4:=own_kept h3 k4 (fun k hk e=>by
  obtain⟨cs',h5⟩:=own_ty h3 _ hk
  exact ty_ne h5 b3 (by decide) e)
 have key4:=own_kept key3 k4 (fun k hk e=>by
  obtain⟨cs',h5⟩:=own_ty key3 _ hk
  exact ty_ne h5 b3 (by decide) e)
 have map4:=map3.kept k4 (fun e=>map_ne b3 hmb3 e.symm)
 have rwk4:∀ {b:Nat} {r:List Rn},RwB w2 b r→RwB (w3.setCell ⟨t,0,none⟩ rv') b r:=fun {b r} hh=>(rwk3 hh).kept k4 (fun e=>by
  obtain⟨cs,h5,_⟩:=rwk3 hh
  exact ty_ne h5 b3 (by decide) e)
 have kk:Kept P w (w3.setCell ⟨t,0,none⟩ rv'):=(((k1.mono (fun k e=>by rw[e];exact h.pm)).trans (Kept.of_below x2)).trans (k3.mono (fun k hk=>h.pr k hk))).trans (k4.mono (fun k e=>by rw[e];exact h.pt))
 have hs2:w.heap.size≤w2.heap.size:=Nat.le_trans k1.size x2.size
 refine⟨fun k=>k=t∨rv'.ownBlock=some k∨k=mb∨kv.ownBlock=some k,⟨Rs++[⟨g,c,r⟩],rv',mb,kv,kn,kx,⟨b4,by rw[List.length_append];simpa [rdC] using row4,fun x hx=>?_,by rw[List.length_append,List.map_append];exact map4,key4,.inl rfl,fun k hk=>.inr (.inl hk),.inr (.inr (.inl rfl)),fun k hk=>.inr (.inr (.inr hk)),fun k hk=>?_,fun k hk cs e=>?_,fun x hx=>?_⟩,by simp[rdR],fun x hx=>?_⟩,kk,fun k hk=>?_⟩
 ·rcases List.mem_append.1 hx with hx|hx
  ·exact rwk4 (rws2 x hx)
  ·obtain rfl:=List.mem_singleton.1 hx
   exact rwk4 z
 ·rcases hk with e|hk|e|hk
  ·rw[e];exact lt_of_block b4
  ·exact(World.ownsRow.lt row4 k hk).2
  ·rw[e];exact map4.lt
  ·exact(World.ownsRow.lt key4 k hk).2
 ·rcases hk with hk|hk|hk|hk
  ·subst hk;exact ty_ne b4 e (by decide) rfl
  ·obtain⟨cs',h5⟩:=own_ty row4 _ hk
   exact ty_ne h5 e (by decide) rfl
  ·subst hk
   obtain⟨es2,cl2,hmb2⟩:=map4.blk
   exact map_ne e hmb2 rfl
  ·obtain⟨cs',h5⟩:=own_ty key4 _ hk
   exact ty_ne h5 e (by decide) rfl
 ·rcases List.mem_append.1 hx with hx|hx
  ·exact h.fit x hx
  ·obtain rfl:=List.mem_singleton.1 hx
   exact hf
 ·rcases List.mem_append.1 hx with hx|hx
  ·exact .inl (hq x hx)
  ·obtain rfl:=List.mem_singleton.1 hx
   exact .inr hg
 ·rcases hk with e|hk|e|hk
  ·rw[e];exact .inl h.pt
  ·rcases l3 k hk with h5|h5
   ·exact .inl (h.pr k h5)
   ·exact .inr (Nat.le_trans hs2 h5)
  ·rw[e];exact .inl h.pm
  ·exact .inl (h.pk k hk)
end
theorem Try.info102:(Try.prog.info? 102).map (fun i=>(i.zero,i.size,i.bytes))=some (some (.slice none 0 0),1,24):=by kernel_rfl
theorem keyOf_row (r:List Rn) (h:r.length≤256):keyOf Try.prog 9 (.string ⟨(keyR r).toArray⟩)=some (keyK r):=by
 have:=WideMaps.keyOf_string_mk (P:=Try.prog) (k:=9) Try.underlying9 (s:=⟨(keyR r).toArray⟩) (by
  have:=keyR_length r
  simp only[ByteArray.size,List.size_toArray]
  unfold maxLen;omega)
 rw[this]
 simp[keyK]
theorem keyK_key (r:List Rn):WideAt.IsKeyLit (keyK r):=by unfold keyK;trivial
theorem keyK_inj {a b:List Rn} (ha:RFit a) (hb:RFit b) (h:keyK a=keyK b):a=b:=by
 unfold keyK at h
 injection h with h
 exact keyR_inj a b ha.rn hb.rn h
def PlL (t:Nat) (T:List (List Rn)) (P Q:Nat→Prop) (r:List Rn) (w:World) (e:Ending) (w':World):Prop:=
 ∃i:Nat,e=.returned (.int .i32 (i:Int))∧(plc T r)[i]? =some r∧∃P',TbAt w' t (plc T r) P' (fun k=>Q k∨w.heap.size≤k)∧Kept P w w'∧∀k,P' k→P k∨w.heap.size≤k
section
variable {w:World} {t:Nat} {Rs:List RD} {P Q:Nat→Prop} {rv kv:Value} {mb kn:Nat} {kx:List Value}
set_option maxRecDepth 100000 in
set_option maxHeartbeats 4000000 in
theorem place_any (h:TbX w t Rs P rv mb kv kn kx) {b cap:Nat} {r:List Rn} (hr:RwB w b r) (hf:RFit r) (hl:Rs.length<2147483647) (hq:∀x∈Rs,Q x.b):
 Calls Try.prog 84 #[.pointer (some ⟨t,0,none⟩),.slice (some ⟨b,0,none⟩) r.length cap] w fun e w'=>PlL t (rdR Rs) P Q r w e w':=by
 obtain⟨c0,c1,c2⟩:=h.cells
 obtain⟨ka,kc,hkv,_⟩:=own_shape h.key
 subst hkv
 have HH:=hide h
 have HR:=hide hr
 have HF:=hide hf
 have HNB:Hid ((Value.slice ka 0 kc).ownBlock≠some b):=fun e=>by
  rw[own_blk0 (n:=kn)] at e
  obtain⟨cs,h5,_⟩:=hr
  exact h.nr b (h.pk b e) cs h5
 have HAK:=hide (appendKey_any (cap:=cap) (own_cut0 h.key) hr hf.rn (by have:=hf.le;omega) (Nat.zero_le _) HNB.out)
 have HKO:=hide (keyOf_row r hf.le)
 have hb2:=own_cap' h.key
 have hcm:kc≤maxLen:=by
  rcases h.key.2 with⟨e1,_⟩|⟨g,cap',cur,e1,_,_,_,h2,_⟩
  ·injection e1 with _ _ e2;subst e2;exact Nat.zero_le _
  ·injection e1 with _ _ e2;subst e2;exact h2
 have hc0:(0:Int)≤(kc:Int):=by omega
 have HQ:=hide hq
 clear h hr hf hq
 go_enter Try.func84,Try.ntmps84
 have HBT:Hid (∀W v',GrowAt w W (.slice ka 0 kc) v'→W.heap[t]? =some (.cells #[rv,.map (some mb),.slice ka kn kc] 112 (0,0))):=fun W v' g=>(g.1.block t (lt_of_block HH.out.blk) (fun e=>by
  rw[own_blk0 (n:=kn)] at e
  obtain⟨cs,h5⟩:=own_ty HH.out.key _ e
  exact ty_ne h5 HH.out.blk (by decide) rfl)).trans HH.out.blk
 go_upto_region 2 with(go_at_call 91;refine HAK.out.mono ?_;rintro e w1 ⟨v',rfl,o1,g1⟩;obtain⟨ao1,cap1,hv1,hp1⟩:=own_shape o1;obtain⟨g,hg⟩:=hp1 (by rw[keyR_length];have:=HF.out.pos;omega);subst hg;subst hv1;have f1:=frozen_of_row w1 t 2 _ _ (HBT.out _ _ g1);have q1:w1.cell? ⟨t,2,none⟩=some (.slice ka kn kc):=(by rw[cell_of_row w1 t _ _ _ _ (HBT.out _ _ g1)];rfl);have O1:=hide o1;have G1:=hide g1;clear o1 g1 hp1)
 all_goals
  obtain⟨P2,h2,k2,p2⟩:=HH.out.rekey own_blk0 G1.out O1.out
  have H2:=hide h2
  have K2:=hide k2
  have P2':=hide p2
  have HR2:Hid (RwB (w1.setCell ⟨t,2,none⟩ (.slice (some ⟨g,0,none⟩) (keyR r).length cap1)) b r):=HR.out.keptT k2 HH.out.nr
  clear h2 k2 p2 f1 q1 O1 G1 HBT HAK c0 c1 c2
  generalize w1.setCell ⟨t,2,none⟩ (.slice (some ⟨g,0,none⟩) (keyR r).length cap1)=w2 at *
  have H3:=hide (H2.out.below (Below.refl _ w2).drew)
  have K3:Hid (Kept P w w2.drew):=K2.out.drew
  have HR3:Hid (RwB w2.drew b r):=HR2.out.below (Below.refl _ w2).drew
  have SZ3:Hid (w.heap.size≤w2.drew.heap.size):=K3.out.size
  refine wp_unt (S:=fun V=>V=w2.drew) 14 (by kernel_rfl) ?_
  generalize w2.drew=w3 at *
  clear H2 K2 HR2
  have c1:=H3.out.cells.2.1
  have c2:=H3.out.cells.2.2
  have hcv:=run_convert_bytes_back (P:=Try.prog) w3 110 9 5 ⟨g,0,none⟩ cap1 (keyR r) Try.underlying110 Try.underlying5 Try.underlying9 (fun j hj=>by
   rw[addr_add,Nat.zero_add,World.ownsRow.cellAt H3.out.key j (by omega)]
   simp[uC,hj])
  obtain⟨D,hown,hh,ha⟩:=H3.out.map
  have hz0:(zeroValue 21).run Try.prog w3=.ok (.int .i32 0) w3:=Try.zeroValue21 w3
  obtain⟨v,ps,hlook,hv⟩:=hown.look_ok (string_keyed Try.underlying9) Try.underlying109 hz0 (plainElem_int Try.underlying21 (by decide)) HKO.out
  obtain⟨c,rfl,hat0,_⟩:=plainElem_int_inv Try.underlying21 hv
  have hat:=congrArg Prod.fst hat0
  clear hv hat0
  refine UntH.tk 0 rfl 19 rfl (fun w' hw'=>by subst hw';go_simp;first|done|rfl) ?_
  refine UntH.tk 1 rfl 20 rfl (fun w' hw'=>by subst hw';go_simp;first|done|rfl) ?_
  refine UntH.tk 2 rfl 21 rfl (fun w' hw'=>by subst hw';go_simp;first|done|rfl) ?_
  refine UntH.tk 3 rfl 22 rfl (fun w' hw'=>by subst hw';go_simp;first|done|rfl) ?_
  refine UntH.tk 4 rfl 23 rfl (fun w' hw'=>by subst hw';go_simp;first|done|rfl) ?_
  refine UntH.tk 5 rfl 24 rfl (fun w' hw'=>by subst hw';go_simp;first|done|rfl) ?_
  refine UntH.tk 6 rfl 25 rfl (fun w' hw'=>by subst hw';go_simp;first|done|rfl) ?_
  refine UntH.tk 7 rfl 26 rfl (fun w' hw'=>by subst hw';go_simp;first|done|rfl) ?_
  refine UntH.tk 8 rfl 27 rfl (fun w' hw'=>by subst hw';go_simp;first|done|rfl) ?_
  refine UntH.tk 9 rfl 28 rfl (fun w' hw'=>by subst hw';go_simp;first|done|rfl) ?_
  refine UntH.tk 10 rfl 18 rfl (fun w' hw'=>by subst hw';go_simp;first|done|rfl) ?_
  refine UntH.tk 11 rfl 29 rfl (fun w' hw'=>by subst hw';go_simp;first|done|rfl) ?_
  refine UntH.tk 12 rfl 30 rfl (fun w' hw'=>by subst hw';go_simp;first|done|rfl) ?_
  refine UntH.tk 13 rfl 5 rfl (fun w' hw'=>by subst hw';go_simp;first|done|rfl) ?_
  try simp only[Act.put,List.setIfInBounds_toArray,List.set_cons_zero,List.set_cons_succ]
  refine UntH.last (by kernel_rfl) rfl (by kernel_rfl) (by kernel_rfl) (fun K hK=>?_)
  go_simp
  refine hK _ _ ?_
  clear hK K hlook hcv
  have HM:∀kl,kl∈(Rs.map fun x=>keyK x.r)↔∃x∈Rs,keyK x.r=kl:=fun kl=>List.mem_map
  by_cases hin:r∈rdR Rs
  ·have hk:keyK r∈Rs.map fun x=>keyK x.r:=by
    obtain⟨x,hx,e⟩:=List.mem_map.1 hin
    exact List.mem_map.2 ⟨x,hx,by rw[e]⟩
   rw[(hh _).2 hk]
   obtain⟨i,hi,ei,rfl⟩:=MpT.hit ha hat hk
   rw[List.length_map] at hi
   rw[List.getElem_map] at ei
   have er:(Rs[i]).r=r:=keyK_inj (H3.out.fit _ (List.getElem_mem hi)).1 HF.out ei
   have HE:Hid ((rdR Rs)[i]? =some r):=by unfold Hid;rw[rdR,List.getElem?_map,List.getElem?_eq_getElem hi];exact congrArg some er
   have HP:Hid (plc (rdR Rs) r=rdR Rs):=by unfold Hid plc;rw[if_pos hin]
   clear hin hk ei er hat ha hh hown HM c1 c2 hz0
   go_wp2
   go_ret
   exact⟨i,rfl,by rw[HP.out];exact HE.out,P2,by rw[HP.out];exact⟨Rs,rv,mb,_,_,_,H3.out,rfl,fun x hx=>.inl (HQ.out x hx)⟩,K3.out,P2'.out⟩
  ·have hk:keyK r∉Rs.map fun x=>keyK x.r:=fun hm=>by
    obtain⟨x,hx,e⟩:=List.mem_map.1 hm
    exact hin (List.mem_map.2 ⟨x,hx,keyK_inj (H3.out.fit x hx).1 HF.out e⟩)
   have hhas:Maps.has D (keyK r)=false:=by
    cases e:Maps.has D (keyK r)
    ·rfl
    ·exact absurd ((hh _).1 e) hk
   rw[hhas]
   have HP:Hid (plc (rdR Rs) r=rdR Rs++[r]):=by unfold Hid plc;rw[if_neg hin]
   obtain⟨ra,rc,hrv,_⟩:=own_shape H3.out.row
   subst hrv
   have c0:=H3.out.cells.1
   have e1:IntKind.i32.wrap (Rs.length:Int)=(Rs.length:Int):=by simp[IntKind.wrap,IntKind.bits,IntKind.signed];omega
   have HOWN:=hide hown
   have HHS:=hide hh
   have HAT:=hide ha
   have HKN:=hide hk
   clear hown hh ha hk hin hhas hat HM hz0 c1 c2
   go_upto_region 6 with fail
   clear c0
   have H4:=hide (H3.out.below (Below.refl _ w3).drew)
   have K4:Hid (Kept P w w3.drew):=K3.out.drew
   have HR4:Hid (RwB w3.drew b r):=HR3.out.below (Below.refl _ w3).drew
   have HOW4:Hid (w3.drew.ownsMap Try.prog 9 (plainElem Try.prog 21) mb Rs.length D):=by
    obtain⟨es,cl,h1,h2⟩:=HOWN.out
    exact⟨es,cl,h1,h2⟩
   refine wp_unt (S:=fun V=>V=w3.drew) 10 (by kernel_rfl) ?_
   generalize w3.drew=w4 at *
   clear H3 K3 HR3 HOWN
   have c1:=H4.out.cells.2.1
   have c2:=H4.out.cells.2.2
   have hcv:=run_convert_bytes_back (P:=Try.prog) w4 110 9 5 ⟨g,0,none⟩ cap1 (keyR r) Try.underlying110 Try.underlying5 Try.underlying9 (fun j hj=>by
    rw[addr_add,Nat.zero_add,World.ownsRow.cellAt H4.out.key j (by omega)]
    simp[uC,hj])
   have hwf:(Lit.int .i32 (Rs.length:Int)).wf=true:=by simp[Lit.wf,IntKind.min,IntKind.max,IntKind.bits,IntKind.signed];omega
   obtain⟨w5,hrun,r1,r2⟩:=HOW4.out.store (string_keyed Try.underlying9) Try.underlying109 (by unfold maxLen;omega) HKO.out (plainElem_int Try.underlying21 hwf)
   have R2:=hide r2
   have HPU:=hide (MpT.put (kt:=9) (keyK_key r) HKN.out HOW4.out.isMap HHS.out HAT.out (by rw[List.length_map];exact r1))
   clear r1 r2 hwf
   refine UntH.tk 0 rfl 39 rfl (fun w' hw'=>by subst hw';go_simp;first|done|rfl) ?_
   refine UntH.tk 1 rfl 40 rfl (fun w' hw'=>by subst hw';go_simp;first|done|rfl) ?_
   refine UntH.tk 2 rfl 41 rfl (fun w' hw'=>by subst hw';go_simp;first|done|rfl) ?_
   refine UntH.tk 3 rfl 42 rfl (fun w' hw'=>by subst hw';go_simp;first|done|rfl) ?_
   refine UntH.tk 4 rfl 43 rfl (fun w' hw'=>by subst hw';go_simp;first|done|rfl) ?_
   refine UntH.tk 5 rfl 44 rfl (fun w' hw'=>by subst hw';go_simp;first|done|rfl) ?_
   refine UntH.tk 6 rfl 45 rfl (fun w' hw'=>by subst hw';go_simp;first|done|rfl) ?_
   refine UntH.tk 7 rfl 46 rfl (fun w' hw'=>by subst hw';go_simp;first|done|rfl) ?_
   refine UntH.tk 8 rfl 47 rfl (fun w' hw'=>by subst hw';go_simp;first|done|rfl) ?_
   refine UntH.tk 9 rfl 48 rfl (fun w' hw'=>by subst hw';go_simp;first|done|rfl) ?_
   try simp only[Act.put,List.setIfInBounds_toArray,List.set_cons_zero,List.set_cons_succ]
   refine UntH.last (by kernel_rfl) rfl (by kernel_rfl) (by kernel_rfl) (fun K hK=>?_)
   go_simp
   refine hK _ _ ?_
   clear hK K hrun hcv c1 c2
   obtain⟨es4,cl4,hmb4⟩:=H4.out.map.blk
   have B5:Hid (w5.heap[t]? =some (.cells #[.slice ra Rs.length rc,.map (some mb),.slice (some ⟨g,0,none⟩) (keyR r).length cap1] 112 (0,0))):=((mapTurned_kept R2.out).block t (lt_of_block H4.out.blk) (map_ne H4.out.blk hmb4)).trans H4.out.blk
   have ROW5:Hid (w5.ownsRow 0 102 1 (.slice ra Rs.length rc) Rs.length (rdC Rs)):=own_kept H4.out.row (mapTurned_kept R2.out) (fun k hk e=>by
    obtain⟨cs',h5⟩:=own_ty H4.out.row _ hk
    exact map_ne h5 hmb4 e)
   have HR5:Hid (RwB w5 b r):=HR4.out.kept (mapTurned_kept R2.out) (fun e=>by
    obtain⟨cs,h5,_⟩:=HR4.out
    exact map_ne h5 hmb4 e)
   clear hmb4
   go_upto_region 7 with fail
   have BD:Hid (w5.drew.heap[t]? =some (.cells #[.slice ra Rs.length rc,.map (some mb),.slice (some ⟨g,0,none⟩) (keyR r).length cap1] 112 (0,0))):=B5.out
   have XD:Hid (Below w5.heap.size w5 w5.drew):=(Below.refl _ w5).drew
   have ROWD:Hid (w5.drew.ownsRow 0 102 1 (.slice ra Rs.length rc) Rs.length (rdC Rs)):=own_below ROW5.out XD.out
   have HRD:Hid (RwB w5.drew b r):=HR5.out.below XD.out
   refine wp_unt (S:=fun V=>V.cell? ⟨t,0,none⟩=some (.slice ra Rs.length rc)) 11 (by kernel_rfl) ?_
   generalize w5.drew=wd at *
   clear B5 ROW5 HR5
   have HS0:Hid ((fun V:World=>V.cell? ⟨t,0,none⟩=some (.slice ra Rs.length rc)) wd):=by show wd.cell? ⟨t,0,none⟩=_;rw[cell_of_row wd t _ _ _ _ BD.out];rfl
   have HCL:=hide (cloneR_any b cap r wd (by have:=HF.out.le;omega) HF.out.pos HRD.out)
   obtain⟨i102,hi102,hz0,hz1,hz2⟩:=info_parts Try.info102
   refine UntH.tk 0 rfl 49 HS0.out (fun w' q0=>by go_simp;first|done|rfl) ?_
   refine UntH.tk 1 rfl 50 HS0.out (fun w' q0=>by go_simp;first|done|rfl) ?_
   refine UntH.tk 2 rfl 51 HS0.out (fun w' q0=>by go_simp;first|done|rfl) ?_
   refine UntH.tk 3 rfl 52 HS0.out (fun w' q0=>by go_simp;first|done|rfl) ?_
   refine UntH.tk 4 rfl 53 HS0.out (fun w' q0=>by go_simp;first|done|rfl) ?_
   refine UntH.tk 5 rfl 54 HS0.out (fun w' q0=>by go_simp;first|done|rfl) ?_
   try simp only[Act.put,List.setIfInBounds_toArray,List.set_cons_zero,List.set_cons_succ]
   refine UntH.step (i:=6) (by kernel_rfl) rfl (fun K hK=>?_)
   go_simp
   refine HCL.out.mono ?_
   rintro e w6 ⟨⟨g6,c6,rfl,z6,l6,u6⟩,x6⟩
   have U6:=hide u6
   have L6:=hide l6
   have Z6:=hide z6
   have X6:=hide (bt XD.out x6 (Nat.le_refl _))
   have B6:Hid (w6.heap[t]? =some (.cells #[.slice ra Rs.length rc,.map (some mb),.slice (some ⟨g,0,none⟩) (keyR r).length cap1] 112 (0,0))):=(x6.block t (lt_of_block BD.out)).trans BD.out
   have ROW6:=hide (own_below ROWD.out x6)
   have HS6:Hid (w6.cell? ⟨t,0,none⟩=some (.slice ra Rs.length rc)):=by unfold Hid;rw[cell_of_row w6 t _ _ _ _ B6.out];rfl
   refine hK _ _ HS6.out ?_
   clear hK K z6 l6 u6 x6 HCL
   try simp only[Act.put,List.setIfInBounds_toArray,List.set_cons_zero,List.set_cons_succ]
   have y7:Below w6.heap.size w6 (w6.alloc (.cells #[.slice (some ⟨g6,0,none⟩) r.length c6] 102)):=al (Below.refl _ _) _
   have Z7:=hide (Z6.out.below y7)
   have X7:=hide (bt X6.out y7 (Nat.le_refl _))
   have ROW7:=hide (own_below ROW6.out y7)
   have B7:Hid ((w6.alloc (.cells #[.slice (some ⟨g6,0,none⟩) r.length c6] 102)).heap[t]? =some (.cells #[.slice ra Rs.length rc,.map (some mb),.slice (some ⟨g,0,none⟩) (keyR r).length cap1] 112 (0,0))):=(y7.block t (lt_of_block B6.out)).trans B6.out
   have HS7:Hid ((w6.alloc (.cells #[.slice (some ⟨g6,0,none⟩) r.length c6] 102)).cell? ⟨t,0,none⟩=some (.slice ra Rs.length rc)):=by unfold Hid;rw[cell_of_row _ t _ _ _ _ B7.out];rfl
   have HNW:=hide (one_new w6 (.slice (some ⟨g6,0,none⟩) r.length c6) 102)
   refine UntH.step (i:=7) (by kernel_rfl) rfl (fun K hK=>?_)
   go_simp
   refine hK _ _ HS7.out ?_
   clear hK K y7 ROW6 Z6 X6 B6 HS6
   generalize w6.alloc (.cells #[.slice (some ⟨g6,0,none⟩) r.length c6] 102)=w7 at *
   refine UntH.step (i:=8) (by kernel_rfl) rfl (fun K hK=>?_)
   refine step_append_lies _ (by rfl) (.tmp 53) (.tmp 56) 98 (by rfl) 0 102 i102 (.slice none 0 0) 1 24 Try.underlying98 hi102 hz0 hz1 hz2 rfl (by decide) _ Rs.length (rdC Rs) (by rfl) ROW7.out ⟨w6.heap.size,0,none⟩ 1 1 [.slice (some ⟨g6,0,none⟩) r.length c6] (by rfl) (by rfl) HNW.out (by simp[Value.oneCell']) (by decide) (by unfold maxLen;omega) (by omega) (Nat.zero_le _) _ rfl ?_
   intro g8 cap8 w8 h1 h2 h3 h4
   have O8:=hide h1
   have G8:=hide h2
   have L8:Hid (∀k,(Value.slice (some ⟨g8,0,none⟩) (Rs.length+1) cap8).ownBlock=some k→(Value.slice ra Rs.length rc).ownBlock=some k∨w7.heap.size≤k):=fun k hk=>by
    have e:g8=k:=Option.some.inj hk
    subst e
    rcases h3 with h3|h3
    ·exact .inl h3
    ·exact .inr (by omega)
   have B8:Hid (w8.heap[t]? =some (.cells #[.slice ra Rs.length rc,.map (some mb),.slice (some ⟨g,0,none⟩) (keyR r).length cap1] 112 (0,0))):=((kept_of_grown h2).block t (lt_of_block B7.out) (fun hk=>by
    obtain⟨cs',h5⟩:=own_ty ROW7.out _ hk
    exact ty_ne h5 B7.out (by decide) rfl)).trans B7.out
   have HS8:Hid (w8.cell? ⟨t,0,none⟩=some (.slice ra Rs.length rc)):=by unfold Hid;rw[cell_of_row w8 t _ _ _ _ B8.out];rfl
   have f8:=frozen_of_row w8 t 0 _ _ B8.out
   refine hK _ _ HS8.out ?_
   clear hK K h1 h2 h3 h4
   refine UntH.tk 9 rfl 58 HS8.out (fun w' q0=>by go_simp;first|done|rfl) ?_
   refine UntH.tk 10 rfl 59 HS8.out (fun w' q0=>by go_simp;first|done|rfl) ?_
   have q8:=HS8.out
   refine UntH.last (by kernel_rfl) rfl (by kernel_rfl) (by kernel_rfl) (fun K hK=>?_)
   go_simp
   refine hK _ _ ?_
   clear hK K q8 f8 HS8 HS7 HS0
   have FIN:=hide (H4.out.add R2.out HPU.out X7.out Z7.out (Nat.le_trans (Nat.le_trans (mapTurned_kept R2.out).size XD.out.size) L6.out) HQ.out ⟨HF.out,U6.out⟩ O8.out G8.out L8.out (w4:=w8.setCell ⟨t,0,none⟩ (.slice (some ⟨g8,0,none⟩) (Rs.length+1) cap8)) rfl)
   have HE:Hid ((rdR Rs++[r])[Rs.length]? =some r):=by unfold Hid;rw[List.getElem?_append_right (by simp[rdR])];simp[rdR]
   clear O8 G8 L8 B8 B7 ROW7 HNW X7 Z7 ROWD BD XD HRD HR4 HPU R2
   generalize w8.setCell ⟨t,0,none⟩ (.slice (some ⟨g8,0,none⟩) (Rs.length+1) cap8)=w9 at *
   go_wp2
   go_ret
   obtain⟨P',p1,p3,p4⟩:=FIN.out
   have hsz:=K4.out.size
   refine⟨Rs.length,rfl,by rw[HP.out];exact HE.out,P',by rw[HP.out];exact p1.mono (fun k hk=>hk.imp id (fun h=>by omega)),K4.out.trans_new p3 (fun k hk hp=>(P2'.out k hp).resolve_right (by omega)),fun k hk=>(p4 k hk).elim (P2'.out k) (fun h=>.inr (by omega))⟩
end
theorem TbAt.place {w:World} {t:Nat} {T:List (List Rn)} {P Q:Nat→Prop} (h:TbAt w t T P Q) {b cap:Nat} {r:List Rn} (hr:RwB w b r) (hf:RFit r) (hl:T.length<2147483647):
 Calls Try.prog 84 #[.pointer (some ⟨t,0,none⟩),.slice (some ⟨b,0,none⟩) r.length cap] w fun e w'=>PlL t T P Q r w e w':=by
 obtain⟨Rs,rv,mb,kv,kn,kx,h1,rfl,h3⟩:=h
 exact place_any h1 hr hf (by simpa [rdR] using hl) h3
end Go.Proofs.Ytnddhkhmbjeefaa

