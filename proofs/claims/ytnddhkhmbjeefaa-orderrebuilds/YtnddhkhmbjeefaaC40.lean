/-
  The document's store in memory, and what its parts turn. No condition.
-/
import Derived.Test.YtnddhkhmbjeefaaC39
import Derived.Test.YtnddhkhmbjeefaaC04
import Derived.Test.YtnddhkhmbjeefaaC34
import Derived.Test.YtnddhkhmbjeefaaC03
namespace Go.Proofs.Ytnddhkhmbjeefaa
open Go.RowKit Go.Lib Go.Maps
def z4:List Value:=[.int .i64 0,.slice none 0 0,.int .i64 0,.slice none 0 0]
structure StX (w:World) (s:Nat) (R:List ND) (nv:Value) (V:Nat→Value) (L:Nat→List Int) (P M:Nat→Prop):Prop where
 blk:w.heap[s]? =some (.cells #[nv,V 1,V 2,V 3] 155 (0,0))
 nod:w.ownsRow 0 86 2 nv (R.length+2) (z4++ndC R)
 row:∀j,1≤j→j≤3→w.ownsRow 0 3 1 (V j) (L j).length (zC (L j))
 kid:∀y∈R,ZBk w y.kb y.ks
 apart:∀i j,1≤i→i≤3→1≤j→j≤3→i≠j→∀k,(V i).ownBlock=some k→¬(V j).ownBlock=some k
 ps:M s
 pn:∀k,nv.ownBlock=some k→M k
 pv:∀j,1≤j→j≤3→∀k,(V j).ownBlock=some k→M k
 nk:∀y∈R,¬M y.kb
 mp:∀k,M k→P k
 pk:∀y∈R,P y.kb
 plt:∀k,P k→k<w.heap.size
section
variable {w w' w2:World} {s:Nat} {R:List ND} {nv nv' v':Value} {V:Nat→Value} {L:Nat→List Int} {P M F:Nat→Prop} {l':List Int} {j:Nat}
theorem StX.kept (h:StX w s R nv V L P M) (hk:Kept F w w') (hF:∀k,P k→¬F k):StX w' s R nv V L P M:=
 ⟨(hk.block s (h.plt s (h.mp s h.ps)) (hF s (h.mp s h.ps))).trans h.blk,own_kept h.nod hk (fun k hb=>hF k (h.mp k (h.pn k hb))),fun j h1 h3=>own_kept (h.row j h1 h3) hk (fun k hb=>hF k (h.mp k (h.pv j h1 h3 k hb))),fun y hy=>(h.kid y hy).kept hk (hF _ (h.pk y hy)),h.apart,h.ps,h.pn,h.pv,h.nk,h.mp,h.pk,fun k hp=>Nat.lt_of_lt_of_le (h.plt k hp) hk.size⟩
theorem StX.below (h:StX w s R nv V L P M) (y:Below w.heap.size w w'):StX w' s R nv V L P M:=h.kept (F:=fun _=>False) (Kept.of_below y) (fun _ _ h=>h)
theorem StX.cells (h:StX w s R nv V L P M):w.cell? ⟨s,0,none⟩=some nv∧w.cell? ⟨s,1,none⟩=some (V 1)∧w.cell? ⟨s,2,none⟩=some (V 2)∧w.cell? ⟨s,3,none⟩=some (V 3):=by
 refine⟨?_,?_,?_,?_⟩<;>(rw[cell_of_row w s _ _ _ _ h.blk];rfl)
theorem StX.fix (h:StX w s R nv V L P M) (h1:1≤j) (h3:j≤3) {k:Nat} (hk:(V j).ownBlock=some k) {y:ND} (hy:y∈R):k≠y.kb:=fun e=>h.nk y hy (by rw[←e];exact h.pv j h1 h3 k hk)
theorem StX.mlt (h:StX w s R nv V L P M) {k:Nat} (hk:M k):k<w.heap.size:=h.plt k (h.mp k hk)
theorem StX.setJ (h:StX w s R nv V L P M) (h1:1≤j) (h3:j≤3) (k2:Kept (fun k=>(V j).ownBlock=some k) w w2) (hr:w2.ownsRow 0 3 1 v' l'.length (zC l')) (hn:∀k,v'.ownBlock=some k→(V j).ownBlock=some k∨w.heap.size≤k):
 StX (w2.setCell ⟨s,j,none⟩ v') s R nv (fun i=>if i=j then v' else V i) (fun i=>if i=j then l' else L i) (fun k=>P k∨v'.ownBlock=some k) (fun k=>M k∨v'.ownBlock=some k)∧Kept (fun k=>(V j).ownBlock=some k∨k=s) w (w2.setCell ⟨s,j,none⟩ v'):=by
 have k3:Kept (fun k=>k=s) w2 (w2.setCell ⟨s,j,none⟩ v'):=Kept.setCell (F:=fun k=>k=s) (p:=⟨s,j,none⟩) (Kept.refl _ _) rfl _
 have hns:¬(V j).ownBlock=some s:=fun hF=>by
  obtain⟨cs,h5⟩:=own_ty (h.row j h1 h3) _ hF
  exact blocks_ne h.blk h5 (by decide) rfl
 have hb2:=(k2.block s (lt_of_block h.blk) hns).trans h.blk
 have kk:Kept (fun k=>(V j).ownBlock=some k∨k=s) w (w2.setCell ⟨s,j,none⟩ v'):=(k2.mono (fun _ h=>.inl h)).trans (k3.mono (fun _ h=>.inr h))
 have hns':¬v'.ownBlock=some s:=fun hF=>by
  rcases hn s hF with h5|h5
  ·exact hns h5
  ·have:=lt_of_block h.blk;omega
 have oth:∀i,1≤i→i≤3→i≠j→∀k,(V i).ownBlock=some k→¬((V j).ownBlock=some k∨k=s):=fun i i1 i3 hij k hk hF=>by
  rcases hF with hF|hF
  ·exact h.apart i j i1 i3 h1 h3 hij k hk hF
  ·obtain⟨cs,h5⟩:=own_ty (h.row i i1 i3) _ hk
   exact blocks_ne h.blk h5 (by decide) hF.symm
 have new:∀k,P k→k≠s→¬(V j).ownBlock=some k→¬v'.ownBlock=some k:=fun k hp hks hv hF=>by
  rcases hn k hF with h5|h5
  ·exact hv h5
  ·have:=h.plt k hp;omega
 refine⟨⟨?_,own_kept h.nod kk (fun k hk hF=>?_),fun i i1 i3=>?_,fun y hy=>(h.kid y hy).kept kk (fun hF=>?_),fun a b a1 a3 b1 b3 hab k ha hb=>?_,.inl h.ps,fun k hk=>.inl (h.pn k hk),fun i i1 i3 k hk=>?_,fun y hy hF=>?_,fun k hk=>hk.imp (h.mp k) id,fun y hy=>.inl (h.pk y hy),fun k hp=>?_⟩,kk⟩
 ·rw[block_setCell hb2 j v']
  rcases (show j=1∨j=2∨j=3 by omega) with rfl|rfl|rfl<;>rfl
 ·obtain⟨cs,h5⟩:=own_ty h.nod _ hk
  rcases hF with hF|hF
  ·obtain⟨cs',h6⟩:=own_ty (h.row j h1 h3) _ hF
   exact blocks_ne h5 h6 (by decide) rfl
  ·exact blocks_ne h.blk h5 (by decide) hF.symm
 ·by_cases e:i=j
  ·simp only[if_pos e]
   exact own_kept hr k3 (fun k hk hF=>hns' (by rw[←hF];exact hk))
  ·simp only[if_neg e]
   exact own_kept (h.row i i1 i3) kk (oth i i1 i3 e)
 ·rcases hF with hF|hF
  ·exact h.fix h1 h3 hF hy rfl
  ·exact(h.kid y hy).ne h.blk (by decide) hF
 ·by_cases e:a=j
  ·rw[if_pos e] at ha
   rw[if_neg (fun e2=>hab (e.trans e2.symm))] at hb
   have e2:b≠j:=fun e2=>hab (e.trans e2.symm)
   exact new k (h.mp k (h.pv b b1 b3 k hb)) (fun hF=>oth b b1 b3 e2 k hb (.inr hF)) (fun hF=>oth b b1 b3 e2 k hb (.inl hF)) ha
  ·rw[if_neg e] at ha
   by_cases e2:b=j
   ·rw[if_pos e2] at hb
    exact new k (h.mp k (h.pv a a1 a3 k ha)) (fun hF=>oth a a1 a3 e k ha (.inr hF)) (fun hF=>oth a a1 a3 e k ha (.inl hF)) hb
   ·rw[if_neg e2] at hb
    exact h.apart a b a1 a3 b1 b3 hab k ha hb
 ·by_cases e:i=j
  ·rw[if_pos e] at hk
   exact .inr hk
  ·rw[if_neg e] at hk
   exact .inl (h.pv i i1 i3 k hk)
 ·rcases hF with hF|hF
  ·exact h.nk y hy hF
  ·exact new _ (h.pk y hy) (fun hF=>(h.kid y hy).ne h.blk (by decide) hF) (fun hF=>h.fix h1 h3 hF hy rfl) hF
 ·rcases hp with hp|hp
  ·exact Nat.lt_of_lt_of_le (h.plt k hp) kk.size
  ·exact Nat.lt_of_lt_of_le (World.ownsRow.lt hr k hp).2 k3.size
theorem StX.putJ (h:StX w s R nv V L P M) (h1:1≤j) (h3:j≤3) {g n c:Nat} (hv:V j=.slice (some ⟨g,0,none⟩) n c) (hn:n=(L j).length) (i:Nat) (x:Int):
 StX (w.setCell ⟨g,i,none⟩ (.int .i64 x)) s R nv V (fun a=>if a=j then(L j).set i x else L a) P M∧Kept (fun k=>k=g) w (w.setCell ⟨g,i,none⟩ (.int .i64 x)):=by
 have k3:Kept (fun k=>k=g) w (w.setCell ⟨g,i,none⟩ (.int .i64 x)):=Kept.setCell (F:=fun k=>k=g) (p:=⟨g,i,none⟩) (Kept.refl _ _) rfl _
 have hr:=h.row j h1 h3
 have hg:(V j).ownBlock=some g:=by rw[hv];rfl
 obtain⟨cs,h5⟩:=own_ty hr _ hg
 refine⟨⟨(k3.block s (lt_of_block h.blk) (fun e=>blocks_ne h.blk h5 (by decide) e)).trans h.blk,own_kept h.nod k3 (fun k hk hF=>?_),fun a a1 a3=>?_,fun y hy=>(h.kid y hy).kept k3 (fun hF=>h.fix h1 h3 hg hy hF.symm),h.apart,h.ps,h.pn,h.pv,h.nk,h.mp,h.pk,fun k hp=>Nat.lt_of_lt_of_le (h.plt k hp) k3.size⟩,k3⟩
 ·obtain⟨cs',h6⟩:=own_ty h.nod _ hk
  exact blocks_ne h6 h5 (by decide) hF
 ·by_cases e:a=j
  ·subst e
   simp only[if_true]
   rw[hv,hn] at hr ⊢
   have:=(World.ownsRow.stored hr i (.int .i64 x)).1
   rw[List.length_set]
   rw[show zC ((L a).set i x)=(zC (L a)).set i (.int .i64 x) by simp[zC,List.map_set]]
   exact this
  ·simp only[if_neg e]
   exact own_kept (h.row a a1 a3) k3 (fun k hk hF=>h.apart a j a1 a3 h1 h3 e k hk (by rw[hF];exact hg))
theorem StX.addN (h:StX w s R nv V L P M) {y:ND} (hy:ZBk w y.kb y.ks) (hyp:¬P y.kb) {wa:World} (x:Below w.heap.size w wa) (k2:Kept (fun k=>nv.ownBlock=some k) wa w2) (hr:w2.ownsRow 0 86 2 nv' (R.length+3) (z4++ndC (R++[y]))) (hn:∀k,nv'.ownBlock=some k→nv.ownBlock=some k∨w.heap.size≤k):
 StX (w2.setCell ⟨s,0,none⟩ nv') s (R++[y]) nv' V L (fun k=>P k∨nv'.ownBlock=some k∨k=y.kb) (fun k=>M k∨nv'.ownBlock=some k)∧Kept (fun k=>nv.ownBlock=some k∨k=s) w (w2.setCell ⟨s,0,none⟩ nv'):=by
 have k2':Kept (fun k=>nv.ownBlock=some k) w w2:=(Kept.of_below x).trans_new k2 (fun _ _ h=>h)
 have k3:Kept (fun k=>k=s) w2 (w2.setCell ⟨s,0,none⟩ nv'):=Kept.setCell (F:=fun k=>k=s) (p:=⟨s,0,none⟩) (Kept.refl _ _) rfl _
 have hns:¬nv.ownBlock=some s:=fun hF=>by
  obtain⟨cs,h5⟩:=own_ty h.nod _ hF
  exact blocks_ne h.blk h5 (by decide) rfl
 have hb2:=(k2'.block s (lt_of_block h.blk) hns).trans h.blk
 have kk:Kept (fun k=>nv.ownBlock=some k∨k=s) w (w2.setCell ⟨s,0,none⟩ nv'):=(k2'.mono (fun _ h=>.inl h)).trans (k3.mono (fun _ h=>.inr h))
 have hns':¬nv'.ownBlock=some s:=fun hF=>by
  rcases hn s hF with h5|h5
  ·exact hns h5
  ·have:=lt_of_block h.blk;omega
 have nt:∀ {b:Nat} {cs:Array Value} {f:Nat×Nat},w.heap[b]? =some (.cells cs 3 f)→¬(nv.ownBlock=some b∨b=s):=fun hb hF=>by
  rcases hF with hF|hF
  ·obtain⟨cs,h5⟩:=own_ty h.nod _ hF
   exact blocks_ne hb h5 (by decide) rfl
  ·exact blocks_ne hb h.blk (by decide) hF
 have zk:∀ {b:Nat} {A:List Int},ZBk w b A→ZBk (w2.setCell ⟨s,0,none⟩ nv') b A:=fun hz=>by
  obtain⟨cs,h5⟩:=hz.ty
  exact hz.kept kk (nt h5)
 refine⟨⟨?_,?_,fun j h1 h3=>own_kept (h.row j h1 h3) kk (fun k hk=>?_),fun z hz=>?_,h.apart,.inl h.ps,fun k hk=>.inr hk,fun j h1 h3 k hk=>.inl (h.pv j h1 h3 k hk),fun z hz hF=>?_,fun k hk=>hk.imp (h.mp k) .inl,fun z hz=>?_,fun k hp=>?_⟩,kk⟩
 ·rw[block_setCell hb2 0 nv']
  rfl
 ·rw[List.length_append,List.length_singleton]
  exact own_kept hr k3 (fun k hk hF=>hns' (by rw[←hF];exact hk))
 ·obtain⟨cs,h5⟩:=own_ty (h.row j h1 h3) _ hk
  exact nt h5
 ·rcases List.mem_append.1 hz with hz|hz
  ·exact zk (h.kid z hz)
  ·rw[List.mem_singleton.1 hz];exact zk hy
 ·have hzP:z.kb<w.heap.size∧¬M z.kb:=by
   rcases List.mem_append.1 hz with hz|hz
   ·exact⟨(h.kid z hz).lt,h.nk z hz⟩
   ·rw[List.mem_singleton.1 hz]
    exact⟨hy.lt,fun e=>hyp (h.mp _ e)⟩
  rcases hF with hF|hF
  ·exact hzP.2 hF
  ·rcases hn _ hF with h5|h5
   ·exact hzP.2 (h.pn _ h5)
   ·omega
 ·rcases List.mem_append.1 hz with hz|hz
  ·exact .inl (h.pk z hz)
  ·rw[List.mem_singleton.1 hz];exact .inr (.inr rfl)
 ·rcases hp with hp|hp|hp
  ·exact Nat.lt_of_lt_of_le (h.plt k hp) kk.size
  ·exact Nat.lt_of_lt_of_le (World.ownsRow.lt hr k hp).2 k3.size
  ·rw[hp];exact Nat.lt_of_lt_of_le hy.lt kk.size
end
def St (w:World) (s:Nat) (S:List Int) (D:List Nd) (P M:Nat→Prop):Prop:=∃R nv V L,StX w s R nv V L P M∧R.map ND.nd=D∧Ok S MB D∧AskOk S D (L 1)∧HashOk D (L 2) (L 3)
section
variable {w w':World} {s:Nat} {S:List Int} {D:List Nd} {P M F:Nat→Prop}
theorem St.kept (h:St w s S D P M) (hk:Kept F w w') (hF:∀k,P k→¬F k):St w' s S D P M:=by
 obtain⟨R,nv,V,L,h1,h2⟩:=h
 exact⟨R,nv,V,L,h1.kept hk hF,h2⟩
theorem St.below (h:St w s S D P M) (y:Below w.heap.size w w'):St w' s S D P M:=h.kept (F:=fun _=>False) (Kept.of_below y) (fun _ _ h=>h)
theorem St.ok (h:St w s S D P M):Ok S MB D:=by
 obtain⟨R,nv,V,L,_,_,h3,_⟩:=h
 exact h3
theorem St.plt (h:St w s S D P M) {k:Nat} (hk:P k):k<w.heap.size:=by
 obtain⟨R,nv,V,L,h1,_⟩:=h
 exact h1.plt k hk
theorem St.mp (h:St w s S D P M) {k:Nat} (hk:M k):P k:=by
 obtain⟨R,nv,V,L,h1,_⟩:=h
 exact h1.mp k hk
end
end Go.Proofs.Ytnddhkhmbjeefaa

