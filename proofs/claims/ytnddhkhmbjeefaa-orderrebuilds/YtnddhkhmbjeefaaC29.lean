/-
  The search, in pure words: orders and how many nodes there are. Of no program; no condition.
-/
import Derived.Test.YtnddhkhmbjeefaaC28
namespace Go.Proofs.Ytnddhkhmbjeefaa
open Go.RowKit Go.Lib Go.Maps
noncomputable def cN (S:List Int) (F:List Phi) (most:Int) (o:List Int):Int:=if (foldF S most F o).2.1=0 then((foldF S most F o).2.2.length:Int) else most+1
def bsq (c:List Int→Int) (E:List Int) (v:Int) (y:Nat×Int) (qs:List Nat):Nat×Int:=qs.foldl (fun y q=>if c (mv E v q)<y.2 then(q,c (mv E v q)) else y) y
section
variable {S:List Int} {F:List Phi} {R:List Int} {L:List Lay} {most:Int} {E:List Int} {v:Int} {c:List Int→Int} {p:Nat}
theorem cN_gd (hS:SzOk S) (G:GD S F R L) (h0:0≤most) (h8:most≤8192):cN S F most (L.map (·.1))=if most+1<(nodesL L:Int) then most+1 else(nodesL L:Int):=by
 have o:=(fold_out hS G h0 h8).ok.few
 rcases fold_nodes hS G h0 h8 with⟨e,hn⟩|⟨e,hn⟩
 ·rw[hn] at o
  rw[cN,if_pos e,hn,if_neg (by omega)]
 ·rw[cN,if_neg (by omega)]
  split<;>omega
theorem bsq_append (y:Nat×Int) (qs rs:List Nat):bsq c E v y (qs++rs)=bsq c E v (bsq c E v y qs) rs:=by unfold bsq;rw[List.foldl_append]
theorem bsq_skip:∀(qs:List Nat) (y:Nat×Int),(∀q∈qs,y.2≤c (mv E v q))→bsq c E v y qs=y
 |[],_,_=>rfl
 |q::qs,y,h=>by
  have h1:=h q (by simp)
  show bsq c E v (if c (mv E v q)<y.2 then(q,c (mv E v q)) else y) qs=y
  rw[if_neg (by omega)]
  exact bsq_skip qs y (fun r hr=>h r (by simp[hr]))
theorem bsq_le:∀(qs:List Nat) (y:Nat×Int),(bsq c E v y qs).2≤y.2
 |[],_=>Int.le_refl _
 |q::qs,y=>by
  show(bsq c E v (if c (mv E v q)<y.2 then(q,c (mv E v q)) else y) qs).2≤y.2
  have h1:=bsq_le qs (if c (mv E v q)<y.2 then(q,c (mv E v q)) else y)
  split at h1
  ·rename_i h
   rw[if_pos h]
   omega
  ·rename_i h
   rw[if_neg h]
   exact h1
def AtQ (S:List Int) (F:List Phi) (R:List Int) (E:List Int) (v:Int) (x:DX) (q:Nat):Prop:=GD S F R (layL x.Ls)∧ordL x.Ls=mv E v q
theorem AtQ.cn {x:DX} {q:Nat} (hS:SzOk S) (h:AtQ S F R E v x q) (h0:0≤most) (h8:most≤8192):cN S F most (mv E v q)=if most+1<(nodesL (layL x.Ls):Int) then most+1 else(nodesL (layL x.Ls):Int):=by
 rw[←h.2]
 exact cN_gd hS h.1 h0 h8
theorem bst_walk (hS:SzOk S) (h0:0≤most) (h8:most≤8192):∀(xs:List DX) (s:Nat) (x0:DX) (y:Nat×Int),AtQ S F R E v x0 y.1→y.2≤most+1→(∀k (h:k<xs.length),AtQ S F R E v xs[k] (s+k))→
 AtQ S F R E v (bstF (x0,y.2) xs).1 (bsq (cN S F most) E v y (List.range' s xs.length)).1∧(bstF (x0,y.2) xs).2=(bsq (cN S F most) E v y (List.range' s xs.length)).2
 |[],_,_,_,h1,_,_=>⟨h1,rfl⟩
 |x::xs,s,x0,y,h1,h2,h3=>by
  have hx:AtQ S F R E v x s:=h3 0 (by simp)
  have hc:=hx.cn hS h0 h8
  have hrest:∀k (h:k<xs.length),AtQ S F R E v xs[k] (s+1+k):=fun k hk=>by
   have:=h3 (k+1) (by simp;exact hk)
   rw[List.getElem_cons_succ] at this
   rwa [show s+1+k=s+(k+1) by omega]
  show AtQ S F R E v (bstF (if (nodesL (layL x.Ls):Int)<y.2 then(x,(nodesL (layL x.Ls):Int)) else(x0,y.2)) xs).1 (bsq (cN S F most) E v (if cN S F most (mv E v s)<y.2 then(s,cN S F most (mv E v s)) else y) (List.range' (s+1) xs.length)).1∧(bstF (if (nodesL (layL x.Ls):Int)<y.2 then(x,(nodesL (layL x.Ls):Int)) else(x0,y.2)) xs).2=(bsq (cN S F most) E v (if cN S F most (mv E v s)<y.2 then(s,cN S F most (mv E v s)) else y) (List.range' (s+1) xs.length)).2
  by_cases hlt:(nodesL (layL x.Ls):Int)<y.2
  ·rw[if_neg (by omega)] at hc
   rw[if_pos hlt,hc,if_pos hlt]
   exact bst_walk hS h0 h8 xs (s+1) x (s,(nodesL (layL x.Ls):Int)) hx (by show(nodesL (layL x.Ls):Int)≤_;omega) hrest
  ·have hn:¬cN S F most (mv E v s)<y.2:=by rw[hc];split<;>omega
   rw[if_neg hlt,if_neg hn]
   exact bst_walk hS h0 h8 xs (s+1) x0 y h1 h2 hrest
theorem best_spec (hS:SzOk S) (h0:0≤most) (h8:most≤8192) {d:DX} (hd:AtQ S F R E v d p) (hp:p≤E.length) {ls:Int} (hls:(if most+1<(nodesL (layL d.Ls):Int) then most+1 else(nodesL (layL d.Ls):Int))=ls) {xs:List DX} (h:SOt S F R (ls-1) E v p xs):
 AtQ S F R E v (bstF (d,ls) xs).1 (bsq (cN S F most) E v (p,cN S F most (mv E v p)) (List.range (E.length+1))).1:=by
 obtain⟨As,Bs,⟨a1,a2,a3⟩,⟨b1,b2,b3⟩,rfl⟩:=h
 have hcp:cN S F most (mv E v p)=ls:=by rw[hd.cn hS h0 h8];exact hls
 have hlm:ls≤most+1:=by rw[←hls];split<;>omega
 have more:∀q,q≤E.length→MoreN S F R (ls-1) (mv E v q)→ls≤cN S F most (mv E v q):=fun q hq hm=>by
  have ho:IsOrd S (mv E v q):=by
   have hG:=hd.1.ord
   have e:ordL d.Ls=mv E v p:=hd.2
   have hG':IsOrd S (mv E v p):=by rw[←e];exact hG
   have hperm:(mv E v p).Perm (mv E v q):=by
    have h1:∀q,(mv E v q).Perm (v::E):=fun q=>by
     have:=(List.perm_middle (a:=v) (l₁:=E.take q) (l₂:=E.drop q))
     rwa [List.take_append_drop] at this
    exact(h1 p).trans (h1 q).symm
   exact⟨hperm.nodup_iff.1 hG'.nod,by rw[←hperm.length_eq];exact hG'.len,fun l hl=>hG'.rng l (hperm.mem_iff.2 hl)⟩
  obtain⟨L',G',e'⟩:=order_ex hS ho hd.1
  have h1:=hm L' G' e'
  rw[←e',cN_gd hS G' h0 h8]
  split<;>omega
 have er:List.range (E.length+1)=List.range' 0 (p-As.length)++(List.range' (p-As.length) As.length++(List.range' p 1++(List.range' (p+1) Bs.length++List.range' (p+1+Bs.length) (E.length-p-Bs.length)))):=by
  rw[List.range_eq_range',List.range'_append_1,List.range'_append_1]
  have e2:List.range' (p-As.length) As.length++List.range' p (1+(Bs.length+(E.length-p-Bs.length)))=List.range' (p-As.length) (As.length+(1+(Bs.length+(E.length-p-Bs.length)))):=by
   have:=List.range'_append_1 (s:=p-As.length) (m:=As.length) (n:=1+(Bs.length+(E.length-p-Bs.length)))
   rwa [show p-As.length+As.length=p by omega] at this
  rw[e2]
  have e3:=List.range'_append_1 (s:=0) (m:=p-As.length) (n:=As.length+(1+(Bs.length+(E.length-p-Bs.length))))
  rw[Nat.zero_add] at e3
  rw[e3]
  congr 1
  omega
 rw[hcp,er,bsq_append,bsq_skip (List.range' 0 (p-As.length)) _ (fun q hq=>by
  rw[List.mem_range'_1] at hq
  exact more q (by omega) (a3 q (by omega))),bsq_append]
 have w1:=bst_walk hS h0 h8 As.reverse (p-As.length) d (p,ls) hd hlm (fun k hk=>by
  rw[List.length_reverse] at hk
  have hj:As.length-1-k<As.length:=by omega
  have e1:As.reverse[k]'(by rw[List.length_reverse];exact hk)=As[As.length-1-k]:=by rw[List.getElem_reverse]
  have h1:=a1 _ hj
  rw[e1]
  refine⟨h1.1,?_⟩
  rw[h1.2]
  show mv E v (p-(As.length-1-k+1))=_
  rw[show p-(As.length-1-k+1)=p-As.length+k by omega])
 rw[List.length_reverse] at w1
 have hle1:(bsq (cN S F most) E v (p,ls) (List.range' (p-As.length) As.length)).2≤ls:=bsq_le _ (p,ls)
 generalize bsq (cN S F most) E v (p,ls) (List.range' (p-As.length) As.length)=y1 at *
 rw[bsq_append,bsq_skip (List.range' p 1) _ (fun q hq=>by
  rw[List.mem_range'_1] at hq
  have:q=p:=by omega
  rw[this,hcp]
  exact hle1),bsq_append]
 have w2:=bst_walk hS h0 h8 Bs (p+1) (bstF (d,ls) As.reverse).1 y1 w1.1 (by omega) (fun k hk=>by
  have h1:=b1 k hk
  exact⟨h1.1,by rw[h1.2,show p+1+k=p+(k+1) by omega]⟩)
 have eb:bstF (d,ls) (As.reverse++Bs)=bstF ((bstF (d,ls) As.reverse).1,y1.2) Bs:=by
  unfold bstF
  rw[List.foldl_append]
  have:=w1.2
  unfold bstF at this
  rw[←this]
 rw[eb]
 have hle2:(bsq (cN S F most) E v y1 (List.range' (p+1) Bs.length)).2≤y1.2:=bsq_le _ y1
 rw[bsq_skip (List.range' (p+1+Bs.length) (E.length-p-Bs.length)) _ (fun q hq=>by
  rw[List.mem_range'_1] at hq
  have:=more q (by omega) (b3 q (by omega) (by omega))
  omega)]
 exact w2.1
end
end Go.Proofs.Ytnddhkhmbjeefaa

