/-
  The document's arena, as its fields are written anew. Of the program its types alone: no condition.
-/
import Derived.Test.YtnddhkhmbjeefaaB34
namespace Go.Proofs.Ytnddhkhmbjeefaa
open Go.RowKit Go.Lib Go.Maps
section
variable {w w':World} {x:Nat} {S:List Int} {M:Int} {R:List ND} {P:Nat→Prop} {sb sc:Nat} {nv lv:Value} {LV:List Value} {L:Nat→List Int}
theorem blocks_ne {w:World} {i j:Nat} {cs cs':Array Value} {t t':TypeId} {f f':Nat×Nat} (h1:w.heap[i]? =some (.cells cs t f)) (h2:w.heap[j]? =some (.cells cs' t' f')) (h3:t≠t'):i≠j:=fun e=>by
 subst e
 rw[h1] at h2
 simp at h2
 exact h3 h2.2.1
theorem ZBk.ty {w:World} {b:Nat} {L:List Int} (h:ZBk w b L):∃cs,w.heap[b]? =some (.cells cs 3 (0,0)):=by
 obtain⟨cs,h1,_⟩:=h
 exact⟨cs,h1⟩
theorem RAy.setN (h:RAy w x S M R L P sb sc nv lv LV) {w2:World} {R':List ND} {nv':Value} (k2:Kept (fun k=>nv.ownBlock=some k) w w2) (hr:FRow w2 86 2 nv' R'.length (ndC R')) (hn:∀k,nv'.ownBlock=some k→nv.ownBlock=some k∨w.heap.size≤k)
 (hk:∀y∈R',y∈R∨(ZBk w y.kb y.ks∧¬P y.kb)) (ok':Ok S M (R'.map ND.nd)):
 RAy (w2.setCell ⟨x,2,none⟩ nv') x S M R' L (fun k=>P k∨nv'.ownBlock=some k∨∃y∈R',y.kb=k) sb sc nv' lv LV∧Kept P w (w2.setCell ⟨x,2,none⟩ nv'):=by
 have k3:Kept (fun k=>k=x) w2 (w2.setCell ⟨x,2,none⟩ nv'):=Kept.setCell (F:=fun k=>k=x) (p:=⟨x,2,none⟩) (Kept.refl _ _) rfl _
 have hnx:¬nv.ownBlock=some x:=fun hF=>by
  obtain⟨cs,h5⟩:=h.row.ty hF
  exact blocks_ne h.blk h5 (by decide) rfl
 have hb2:=(k2.block x (lt_of_block h.blk) hnx).trans h.blk
 have hb3:(w2.setCell ⟨x,2,none⟩ nv').heap[x]? =some (.cells #[.slice (some ⟨sb,0,none⟩) S.length sc,.int .i64 M,nv',lv] 65 (0,0)):=by
  have:=block_setCell hb2 2 nv'
  simpa using this
 have kk:Kept (fun k=>nv.ownBlock=some k∨k=x) w (w2.setCell ⟨x,2,none⟩ nv'):=(k2.mono (fun _ h=>.inl h)).trans (k3.mono (fun _ h=>.inr h))
 have nt:∀ {b:Nat} {cs:Array Value} {t:TypeId} {f:Nat×Nat},w.heap[b]? =some (.cells cs t f)→t≠86→t≠65→¬(nv.ownBlock=some b∨b=x):=fun hb h1 h2 hF=>by
  rcases hF with hF|hF
  ·obtain⟨cs,h5⟩:=h.row.ty hF
   exact blocks_ne hb h5 h1 rfl
  ·exact blocks_ne hb h.blk h2 hF
 have zk:∀ {b:Nat} {A:List Int},ZBk w b A→ZBk (w2.setCell ⟨x,2,none⟩ nv') b A:=fun hz=>by
  obtain⟨cs,h5⟩:=hz.ty
  exact hz.kept kk (nt h5 (by decide) (by decide))
 have hnx':¬nv'.ownBlock=some x:=fun hF=>by
  rcases hn x hF with h5|h5
  ·exact hnx h5
  ·have:=h.plt x h.px;omega
 have hr3:=hr.kept k3 (fun k hk e=>hnx' (by rw[←e];exact hk))
 have kid':∀y∈R',ZBk w y.kb y.ks:=fun y hy=>by
  rcases hk y hy with h5|h5
  ·exact h.kid y h5
  ·exact h5.1
 refine⟨⟨hb3,zk h.sz,hr3,fun y hy=>zk (kid' y hy),own_kept h.lrow kk (fun k hb=>?_),fun i hi=>(h.lists i hi).kept kk (fun k hb=>?_),h.apart,fun i hi k hb=>⟨(h.fix i hi k hb).1,fun y hy=>?_⟩,.inl h.px,.inl h.ps,fun k hb=>.inr (.inl hb),fun k hb=>.inl (h.pl k hb),fun i hi k hb=>.inl (h.pi i hi k hb),fun y hy=>.inr (.inr ⟨y,hy,rfl⟩),fun k hp=>?_,ok',h.m8⟩,kk.mono (fun k hb=>?_)⟩
 ·obtain⟨cs,h5⟩:=own_ty h.lrow k hb
  exact nt h5 (by decide) (by decide)
 ·obtain⟨cs,h5⟩:=(h.lists i hi).ty hb
  exact nt h5 (by decide) (by decide)
 ·rcases hk y hy with h5|h5
  ·exact(h.fix i hi k hb).2 y h5
  ·exact fun e=>h5.2 (by rw[←e];exact h.pi i hi k hb)
 ·rcases hp with hp|hp|⟨y,hy,rfl⟩
  ·exact Nat.lt_of_lt_of_le (h.plt k hp) kk.size
  ·exact hr3.lt hp
  ·exact Nat.lt_of_lt_of_le (kid' y hy).lt kk.size
 ·rcases hb with hb|hb
  ·exact h.pn k hb
  ·rw[hb];exact h.px
theorem RAy.setL (h:RAy w x S M R L P sb sc nv lv LV) {i g c:Nat} (hi:i<S.length) (hlv:lv=.slice (some ⟨g,0,none⟩) S.length c) {w2:World} {u':Value} {l':List Int} (k2:Kept (fun k=>(LV.getD i (.slice none 0 0)).ownBlock=some k) w w2) (hr:FRow w2 3 1 u' l'.length (zC l'))
 (hn:∀k,u'.ownBlock=some k→(LV.getD i (.slice none 0 0)).ownBlock=some k∨w.heap.size≤k):
 RAy (w2.setCell ⟨g,i,none⟩ u') x S M R (fun j=>if j=i then l' else L j) (fun k=>P k∨u'.ownBlock=some k) sb sc nv lv (LV.set i u')∧Kept P w (w2.setCell ⟨g,i,none⟩ u'):=by
 have hlr:=h.lrow
 have hll:=h.lrow.1
 rw[hlv] at hlr
 obtain⟨csg,hg⟩:=own_ty hlr g rfl
 have k3:Kept (fun k=>k=g) w2 (w2.setCell ⟨g,i,none⟩ u'):=Kept.setCell (F:=fun k=>k=g) (p:=⟨g,i,none⟩) (Kept.refl _ _) rfl _
 have kk:Kept (fun k=>(LV.getD i (.slice none 0 0)).ownBlock=some k∨k=g) w (w2.setCell ⟨g,i,none⟩ u'):=(k2.mono (fun _ h=>.inl h)).trans (k3.mono (fun _ h=>.inr h))
 have nt:∀ {b:Nat} {cs:Array Value} {t:TypeId} {f:Nat×Nat},w.heap[b]? =some (.cells cs t f)→t≠3→t≠22→¬((LV.getD i (.slice none 0 0)).ownBlock=some b∨b=g):=fun hb h1 h2 hF=>by
  rcases hF with hF|hF
  ·obtain⟨cs,h5⟩:=(h.lists i hi).ty hF
   exact blocks_ne hb h5 h1 rfl
  ·exact blocks_ne hb hg h2 hF
 have zk:∀ {b:Nat} {A:List Int},ZBk w b A→¬(LV.getD i (.slice none 0 0)).ownBlock=some b→ZBk (w2.setCell ⟨g,i,none⟩ u') b A:=fun hz hne=>by
  obtain⟨cs,h5⟩:=hz.ty
  refine hz.kept kk (fun hF=>?_)
  rcases hF with hF|hF
  ·exact hne hF
  ·exact blocks_ne h5 hg (by decide) hF
 have hug:¬(LV.getD i (.slice none 0 0)).ownBlock=some g:=fun hF=>by
  obtain⟨cs,h5⟩:=(h.lists i hi).ty hF
  exact blocks_ne h5 hg (by decide) rfl
 have hlr2:=own_kept hlr k2 (fun k hk hF=>by
  obtain rfl:g=k:=Option.some.inj hk
  exact hug hF)
 obtain⟨hlr3,_⟩:=hlr2.stored i u'
 have hu'g:¬u'.ownBlock=some g:=fun hF=>by
  rcases hn g hF with h5|h5
  ·exact hug h5
  ·have:=lt_of_block hg;omega
 have hr3:=hr.kept k3 (fun k hk e=>hu'g (by rw[←e];exact hk))
 have gs:∀j,j<S.length→j≠i→(LV.set i u').getD j (.slice none 0 0)=LV.getD j (.slice none 0 0):=fun j hj hne=>by
  simp only[List.getD_eq_getElem?_getD]
  rw[List.getElem?_set_ne (fun e=>hne e.symm)]
 have gi:(LV.set i u').getD i (.slice none 0 0)=u':=by
  simp only[List.getD_eq_getElem?_getD]
  rw[List.getElem?_set_self (by omega)]
  rfl
 have oth:∀j,j<S.length→j≠i→∀k,(LV.getD j (.slice none 0 0)).ownBlock=some k→¬u'.ownBlock=some k:=fun j hj hne k h1 h2=>by
  rcases hn k h2 with h5|h5
  ·exact h.apart i j hi hj (fun e=>hne e.symm) k h5 h1
  ·have:=h.plt k (h.pi j hj k h1);omega
 refine⟨⟨(kk.block x (lt_of_block h.blk) (nt h.blk (by decide) (by decide))).trans h.blk,zk h.sz (fun hF=>(h.fix i hi _ hF).1 rfl),h.row.kept kk (fun k hb=>?_),fun y hy=>zk (h.kid y hy) (fun hF=>(h.fix i hi _ hF).2 y hy rfl),by rw[hlv];exact hlr3,fun j hj=>?_,fun j1 j2 hj1 hj2 hne k h1 h2=>?_,fun j hj k hb=>?_,.inl h.px,.inl h.ps,fun k hb=>.inl (h.pn k hb),fun k hb=>.inl (h.pl k hb),fun j hj k hb=>?_,fun y hy=>.inl (h.pk y hy),fun k hp=>?_,h.ok,h.m8⟩,kk.mono (fun k hb=>?_)⟩
 ·obtain⟨cs,h5⟩:=h.row.ty hb
  exact nt h5 (by decide) (by decide)
 ·by_cases hji:j=i
  ·subst hji
   rw[gi]
   simp only[if_true]
   exact hr3
  ·rw[gs j hj hji]
   simp only[hji,if_false]
   refine(h.lists j hj).kept kk (fun k hb hF=>?_)
   rcases hF with hF|hF
   ·exact h.apart j i hj hi hji k hb hF
   ·obtain⟨cs,h5⟩:=(h.lists j hj).ty hb
    exact blocks_ne h5 hg (by decide) hF
 ·by_cases h3:j1=i
  ·subst h3
   rw[gi] at h1
   rw[gs j2 hj2 (fun e=>hne e.symm)] at h2
   exact oth j2 hj2 (fun e=>hne e.symm) k h2 h1
  ·rw[gs j1 hj1 h3] at h1
   by_cases h4:j2=i
   ·subst h4
    rw[gi] at h2
    exact oth j1 hj1 h3 k h1 h2
   ·rw[gs j2 hj2 h4] at h2
    exact h.apart j1 j2 hj1 hj2 hne k h1 h2
 ·by_cases h3:j=i
  ·subst h3
   rw[gi] at hb
   rcases hn k hb with h5|h5
   ·exact h.fix j hi k h5
   ·exact⟨fun e=>by have:=h.plt _ h.ps;omega,fun y hy e=>by have:=h.plt _ (h.pk y hy);omega⟩
  ·rw[gs j hj h3] at hb
   exact h.fix j hj k hb
 ·by_cases h3:j=i
  ·subst h3
   rw[gi] at hb
   exact .inr hb
  ·rw[gs j hj h3] at hb
   exact .inl (h.pi j hj k hb)
 ·rcases hp with hp|hp
  ·exact Nat.lt_of_lt_of_le (h.plt k hp) kk.size
  ·exact hr3.lt hp
 ·rcases hb with hb|hb
  ·exact h.pi i hi k hb
  ·rw[hb];exact h.pl g (by rw[hlv];rfl)
theorem RAy.congr (h:RAy w x S M R L P sb sc nv lv LV) {L':Nat→List Int} (e:∀i,i<S.length→L' i=L i):RAy w x S M R L' P sb sc nv lv LV:=
 ⟨h.blk,h.sz,h.row,h.kid,h.lrow,fun i hi=>by rw[e i hi];exact h.lists i hi,h.apart,h.fix,h.px,h.ps,h.pn,h.pl,h.pi,h.pk,h.plt,h.ok,h.m8⟩
end
end Go.Proofs.Ytnddhkhmbjeefaa

