/-
  The program's building in memory. No condition.
-/
import Derived.Test.YtnddhkhmbjeefaaC17
import Derived.Test.YtnddhkhmbjeefaaC14
import Derived.Test.YtnddhkhmbjeefaaC10
import Derived.Test.YtnddhkhmbjeefaaC03
namespace Go.Proofs.Ytnddhkhmbjeefaa
open Go.RowKit Go.Lib Go.Maps
structure BdA where
 b:Nat
 a:Nat
 lb:Nat
 lc:Nat
 sb:Nat
 sc:Nat
 mb:Nat
 mc:Nat
 mr:Nat→Nat
 mrc:Nat→Nat
abbrev ordL (Ls:List LA):List Int:=(layL Ls).map (·.1)
structure BdX (w:World) (B:Nat) (x:BdA) (S:List Int) (M:Int) (Ls:List LA) (N:List Nd) (V:Nat→List Int) (P:Nat→Prop):Prop where
 blk:w.heap[x.b]? =some (.cells #[.pointer (some ⟨x.a,0,none⟩),.slice (some ⟨x.lb,0,none⟩) Ls.length x.lc,.slice (some ⟨x.sb,0,none⟩) Ls.length x.sc,.slice (some ⟨x.mb,0,none⟩) Ls.length x.mc] 122 (0,0))
 lay:LaysAt w B x.lb 0 Ls
 sz:ZBk w x.sb (ledS S (ordL Ls))
 mad:∃cs,w.heap[x.mb]? =some (.cells cs 22 (0,0))∧∀i (h:i<Ls.length),cs[i]? =some (.slice (some ⟨x.mr i,0,none⟩) (Ls[i]).Rs.length (x.mrc i))
 row:∀i (h:i<Ls.length),ZBk w (x.mr i) (V i)∧(V i).length=(Ls[i]).Rs.length
 ar:CA w x.a (ledS S (ordL Ls)) M N N.length P
 nb:¬P x.b∧¬P x.sb∧¬P x.mb
 nk:∀i,i<Ls.length→¬P (x.mr i)
 hi:∀k,P k→B≤k
 hB:B≤w.heap.size
 inj:∀i j,i<Ls.length→j<Ls.length→x.mr i=x.mr j→i=j
 mB:∀i,i<Ls.length→B≤x.mr i∧x.mr i≠x.sb
 kn:∀i,i<Ls.length→∀t,t<(V i).length→(V i).getD t 0=0∨Rep (ledS S (ordL Ls)) N (rowF (ordL Ls) ((layL Ls).drop i) (t:Int)) ((V i).getD t 0)
def BdF (x:BdA) (n:Nat) (P:Nat→Prop):Nat→Prop:=fun k=>P k∨∃i,i<n∧k=x.mr i
section
variable {w w':World} {B:Nat} {x:BdA} {S:List Int} {M:Int} {Ls:List LA} {N:List Nd} {V:Nat→List Int} {P F:Nat→Prop}
theorem BdX.kept (h:BdX w B x S M Ls N V P) (hk:Kept F w w') (hF:∀k,F k→B≤k∧¬P k∧k≠x.b∧k≠x.sb∧k≠x.mb∧∀i,i<Ls.length→k≠x.mr i):BdX w' B x S M Ls N V P:=by
 obtain⟨cs,m1,m2⟩:=h.mad
 have bel:Below B w w':=hk.below h.hB (fun k hf=>(hF k hf).1)
 exact⟨(hk.block _ (lt_of_block h.blk) (fun hf=>(hF _ hf).2.2.1 rfl)).trans h.blk,h.lay.below bel,h.sz.kept hk (fun hf=>(hF _ hf).2.2.2.1 rfl),⟨cs,(hk.block _ (lt_of_block m1) (fun hf=>(hF _ hf).2.2.2.2.1 rfl)).trans m1,m2⟩,fun i hi=>⟨(h.row i hi).1.kept hk (fun hf=>(hF _ hf).2.2.2.2.2 i hi rfl),(h.row i hi).2⟩,h.ar.kept hk (fun k hp hf=>(hF k hf).2.1 hp),h.nb,h.nk,h.hi,Nat.le_trans h.hB hk.size,h.inj,h.mB,h.kn⟩
theorem BdX.below (h:BdX w B x S M Ls N V P) (y:Below w.heap.size w w'):BdX w' B x S M Ls N V P:=h.kept (F:=fun _=>False) (Kept.of_below y) (fun _ h=>h.elim)
theorem BdX.cells (h:BdX w B x S M Ls N V P):w.cell? ⟨x.b,0,none⟩=some (.pointer (some ⟨x.a,0,none⟩))∧w.cell? ⟨x.b,1,none⟩=some (.slice (some ⟨x.lb,0,none⟩) Ls.length x.lc)∧w.cell? ⟨x.b,2,none⟩=some (.slice (some ⟨x.sb,0,none⟩) Ls.length x.sc)∧w.cell? ⟨x.b,3,none⟩=some (.slice (some ⟨x.mb,0,none⟩) Ls.length x.mc):=by
 refine⟨?_,?_,?_,?_⟩<;>(rw[cell_of_row w x.b _ _ _ _ h.blk];rfl)
theorem BdX.made (h:BdX w B x S M Ls N V P) {i:Nat} (hi:i<Ls.length):w.cell? ⟨x.mb,i,none⟩=some (.slice (some ⟨x.mr i,0,none⟩) (Ls[i]).Rs.length (x.mrc i)):=by
 obtain⟨cs,m1,m2⟩:=h.mad
 rw[cell_of_row w x.mb _ _ _ _ m1]
 exact m2 i hi
theorem BdX.known (h:BdX w B x S M Ls N V P) {i t:Nat} (hi:i<Ls.length) (ht:t<(Ls[i]).Rs.length):w.cell? ⟨x.mr i,t,none⟩=some (.int .i64 ((V i).getD t 0))∧w.frozen? ⟨x.mr i,t,none⟩=false:=by
 obtain⟨h1,h2⟩:=h.row i hi
 refine⟨h1.cell (by rw[h2];exact ht),?_⟩
 obtain⟨cs,h3,_⟩:=h1
 exact frozen_of_row w _ _ _ _ h3
theorem BdX.lts (h:BdX w B x S M Ls N V P):x.b<w.heap.size∧x.sb<w.heap.size∧x.mb<w.heap.size∧∀i,i<Ls.length→x.mr i<w.heap.size:=by
 obtain⟨cs,m1,_⟩:=h.mad
 exact⟨lt_of_block h.blk,h.sz.lt,lt_of_block m1,fun i hi=>(h.row i hi).1.lt⟩
theorem BdX.more (h:BdX w B x S M Ls N V P) {T:List Nd} {P':Nat→Prop} (hk:Kept P w w') (hn:∀k,P' k→P k∨w.heap.size≤k) (ha:CA w' x.a (ledS S (ordL Ls)) M (N++T) (N++T).length P'):BdX w' B x S M Ls (N++T) V P':=by
 obtain⟨cs,m1,m2⟩:=h.mad
 have bel:Below B w w':=hk.below h.hB (fun k hp=>h.hi k hp)
 obtain⟨l1,l2,l3,l4⟩:=h.lts
 have np:∀ {z:Nat},z<w.heap.size→¬P z→¬P' z:=fun hz hp hp'=>(hn _ hp').elim hp (fun h1=>by omega)
 exact⟨(hk.block _ l1 h.nb.1).trans h.blk,h.lay.below bel,h.sz.kept hk h.nb.2.1,⟨cs,(hk.block _ l3 h.nb.2.2).trans m1,m2⟩,fun i hi=>⟨(h.row i hi).1.kept hk (h.nk i hi),(h.row i hi).2⟩,ha,⟨np l1 h.nb.1,np l2 h.nb.2.1,np l3 h.nb.2.2⟩,fun i hi=>np (l4 i hi) (h.nk i hi),fun k hp=>(hn k hp).elim (h.hi k) (fun h1=>Nat.le_trans h.hB h1),Nat.le_trans h.hB hk.size,h.inj,h.mB,fun i hi t ht=>(h.kn i hi t ht).imp id (fun r=>r.app h.ar.ok)⟩
def setV (V:Nat→List Int) (i t:Nat) (f:Int):Nat→List Int:=fun k=>if k=i then(V i).set t f else V k
theorem BdX.put (h:BdX w B x S M Ls N V P) {i t:Nat} (hi:i<Ls.length) (ht:t<(Ls[i]).Rs.length) {f:Int} (hf:f=0∨Rep (ledS S (ordL Ls)) N (rowF (ordL Ls) ((layL Ls).drop i) (t:Int)) f):BdX (w.setCell ⟨x.mr i,t,none⟩ (.int .i64 f)) B x S M Ls N (setV V i t f) P:=by
 obtain⟨cs,m1,m2⟩:=h.mad
 have hk:Kept (fun z=>z=x.mr i) w (w.setCell ⟨x.mr i,t,none⟩ (.int .i64 f)):=Kept.setCell (F:=fun z=>z=x.mr i) (p:=⟨x.mr i,t,none⟩) (Kept.refl _ _) rfl _
 have bel:Below B w _:=hk.below h.hB (fun k e=>by rw[e];exact(h.mB i hi).1)
 obtain⟨⟨ci,hci,hcr⟩,hlen⟩:=h.row i hi
 refine⟨(hk.block _ (lt_of_block h.blk) (fun e=>ty_ne h.blk hci (by decide) e)).trans h.blk,h.lay.below bel,h.sz.kept hk (fun e=>(h.mB i hi).2 e.symm),⟨cs,(hk.block _ (lt_of_block m1) (fun e=>ty_ne m1 hci (by decide) e)).trans m1,m2⟩,fun j hj=>?_,h.ar.kept hk (fun k hp e=>h.nk i hi (by rw[←e];exact hp)),h.nb,h.nk,h.hi,Nat.le_trans h.hB hk.size,h.inj,h.mB,fun j hj t' ht'=>?_⟩
 ·by_cases e:j=i
  ·subst e
   simp only[setV,if_true]
   refine⟨⟨_,block_setCell hci t (.int .i64 f),fun q hq=>?_⟩,by rw[List.length_set];exact hlen⟩
   rw[List.length_set] at hq
   have hqs:=hcr q hq
   have hts:=hcr t (by rw[hlen];exact ht)
   have hcs:t<ci.size:=by
    rcases Nat.lt_or_ge t ci.size with h1|h1
    ·exact h1
    ·rw[Array.getElem?_eq_none h1] at hts;cases hts
   by_cases e2:q=t
   ·subst e2
    simp[List.getD_eq_getElem?_getD,hq,Array.set!,Array.setIfInBounds,hcs]
   ·have:t≠q:=fun h=>e2 h.symm
    rw[show((V j).set t f).getD q 0=(V j).getD q 0 by simp[List.getD_eq_getElem?_getD,List.getElem?_set_ne this],←hqs]
    simp only[Array.set!,Array.setIfInBounds,hcs,dite_true]
    rw[Array.getElem?_set_ne hcs this]
  ·simp only[setV,if_neg e]
   exact⟨(h.row j hj).1.kept hk (fun e2=>e (h.inj j i hj hi e2)),(h.row j hj).2⟩
 ·by_cases e:j=i
  ·subst e
   simp only[setV,if_true] at ht' ⊢
   rw[List.length_set] at ht'
   by_cases e2:t'=t
   ·subst e2
    rw[show((V j).set t' f).getD t' 0=f by simp[List.getD_eq_getElem?_getD,ht']]
    exact hf
   ·have:t≠t':=fun h=>e2 h.symm
    rw[show((V j).set t f).getD t' 0=(V j).getD t' 0 by simp[List.getD_eq_getElem?_getD,List.getElem?_set_ne this]]
    exact h.kn j hj t' ht'
  ·simp only[setV,if_neg e] at ht' ⊢
   exact h.kn j hj t' ht'
end
def PuL (B:Nat) (x:BdA) (S:List Int) (M:Int) (Ls:List LA) (N:List Nd) (P:Nat→Prop) (φ:Phi) (w:World) (e:Ending) (w':World):Prop:=
 e=.returned (.tuple #[.int .i64 (ins (ledS S (ordL Ls)) M N φ).1,.int .i64 (ins (ledS S (ordL Ls)) M N φ).2.1])∧∃V' P',BdX w' B x S M Ls (ins (ledS S (ordL Ls)) M N φ).2.2 V' P'∧Kept (BdF x Ls.length P) w w'∧∀k,P' k→P k∨w.heap.size≤k
end Go.Proofs.Ytnddhkhmbjeefaa
namespace Go.Proofs.Ytnddhkhmbjeefaa
open Go.RowKit
section
variable {S:List Int} {M:Int} {N:List Nd} {L A T:List Lay} {l:Lay} {F:List Phi} {R:List Int} {φ:Phi}
theorem OwnN.nil:OwnN S L []:=fun r h2 hr=>by
 have:=hr.2
 simp at this
 omega
structure StepO (S:List Int) (M:Int) (L:List Lay) (e:Int) (N:List Nd):Prop where
 own:OwnN S L N
 full:e≠0→FullN S M L N
theorem OwnN.app {T':List Nd} (h:Ok (ledS S (L.map (·.1))) M N) (o:OwnN S L N) (hT:∀r,(N.length:Int)+2≤r→hasR (N++T') r→∃A l T x,L=A++l::T∧inW (l::T) x∧1<(l.2.getD x.toNat []).length∧Rep (ledS S (L.map (·.1))) (N++T') (rowF (L.map (·.1)) (l::T) x) r):OwnN S L (N++T'):=fun r h2 hr=>by
 rcases Int.lt_or_le r ((N.length:Int)+2) with h1|h1
 ·obtain⟨A,l,T,x,e,g1,g2,g3⟩:=o r h2 ⟨by omega,h1⟩
  exact⟨A,l,T,x,e,g1,g2,g3.app h⟩
 ·exact hT r h1 hr
theorem kids_own (hO:SzOk (ledS S (L.map (·.1)))) (e:L=A++T) (w:Wf S L) (hl:L.length=S.length) (ih:∀(N:List Nd),Ok (ledS S (L.map (·.1))) M N→OwnN S L N→∀x,inW T x→StepO S M L (ins (ledS S (L.map (·.1))) M N (rowF (L.map (·.1)) T x)).2.1 (ins (ledS S (L.map (·.1))) M N (rowF (L.map (·.1)) T x)).2.2):
 ∀(fs:List Phi) (N:List Nd),Ok (ledS S (L.map (·.1))) M N→OwnN S L N→(∀φ∈fs,∃y,inW T y∧φ=rowF (L.map (·.1)) T y)→StepO S M L (kidsF (ins (ledS S (L.map (·.1))) M) N fs).2.1 (kidsF (ins (ledS S (L.map (·.1))) M) N fs).2.2
 |[],N,_,o,_=>⟨o,fun h=>absurd rfl h⟩
 |φ::t,N,h,o,hf=>by
  obtain⟨y,hy,rfl⟩:=hf φ (by simp)
  have s1:=ih N h o y hy
  have o1:=ins_out h (l:=A.length) (by rw[ledS,List.length_map,e];simp) (rowF_hang w e (x:=y))
  unfold kidsF
  generalize ins (ledS S (L.map (·.1))) M N (rowF (L.map (·.1)) T y)=z at *
  by_cases h0:z.2.1=0
  ·rw[if_pos h0]
   have s2:=kids_own hO e w hl ih t z.2.2 o1.ok s1.own (fun ψ hψ=>hf ψ (by simp[hψ]))
   generalize kidsF (ins (ledS S (L.map (·.1))) M) z.2.2 t=v at *
   by_cases h1:v.2.1=0
   ·rw[if_pos h1];exact⟨s2.own,fun h=>absurd rfl h⟩
   ·rw[if_neg h1];exact s2
  ·rw[if_neg h0];exact s1
theorem ins_own (hS:SzOk S) (w:Wf S L) (hl:L.length=S.length):∀(T A:List Lay),L=A++T→∀(N:List Nd),Ok (ledS S (L.map (·.1))) M N→OwnN S L N→∀x,inW T x→StepO S M L (ins (ledS S (L.map (·.1))) M N (rowF (L.map (·.1)) T x)).2.1 (ins (ledS S (L.map (·.1))) M N (rowF (L.map (·.1)) T x)).2.2
 |[],A,e,N,h,o,x,hx=>by
  have h0:=hx.1
  have h1:x<2:=hx.2
  have a:Rep (ledS S (L.map (·.1))) N (rowF (L.map (·.1)) [] x) x:=⟨⟨h0,by omega⟩,fun p _=>by rw[sayR_low (by omega)];rfl⟩
  rw[ins_rep h a]
  exact⟨o,fun h=>absurd rfl h⟩
 |l::T,A,e,N,h,o,x,hx=>by
  have ho:=w.ord hl
  have hO:=ledS_ok hS ho
  have wl:Wf S (l::T):=by rw[e] at w;exact w.tail
  have hs:=hS.at wl.1.ge wl.1.lt
  have e':L=(A++[l])++T:=by rw[e];simp
  have hA:A.length<(ledS S (L.map (·.1))).length:=by rw[ledS,List.length_map,e];simp
  have hsz:(ledS S (L.map (·.1))).getD A.length 0=szL S l.1:=ledS_at (by rw[e];simp)
  have hg:Hang (ledS S (L.map (·.1))) (rowF (L.map (·.1)) (l::T) x) A.length:=rowF_hang w e
  have ih:=fun N h o x hx=>ins_own hS w hl T (A++[l]) e' N h o x hx
  have oz:=ins_out h (by omega) hg
  have ee:=ins_exp h hA hg
  rw[ee] at oz ⊢
  have hcut:∀φ∈cuts (ledS S (L.map (·.1))) (rowF (L.map (·.1)) (l::T) x) A.length,∃y,inW T y∧φ=rowF (L.map (·.1)) T y:=fun φ hφ=>by
   obtain⟨c,hc,rfl⟩:=cuts_mem hφ
   rw[hsz] at hc
   exact⟨_,wl.go hx (by omega) hc,rowF_cut w e⟩
  have sk:=kids_own hO e' w hl ih _ N h o hcut
  have ok:=kids_out (step:=ins (ledS S (L.map (·.1))) M) (l:=A.length+1) (cuts (ledS S (L.map (·.1))) (rowF (L.map (·.1)) (l::T) x) A.length) N h (fun ψ hψ N hN=>by
   obtain⟨c,hc,rfl⟩:=cuts_mem hψ
   exact ins_out hN (by omega) (hg.cut hc))
  unfold expF at oz ⊢
  by_cases h0:(kidsF (ins (ledS S (L.map (·.1))) M) N (cuts (ledS S (L.map (·.1))) (rowF (L.map (·.1)) (l::T) x) A.length)).2.1=0
  ·rw[if_pos h0] at oz ⊢
   have hkk:=ok.res.resolve_right (fun h=>by omega)
   obtain⟨_,k1,k2⟩:=hkk
   generalize hy:kidsF (ins (ledS S (L.map (·.1))) M) N (cuts (ledS S (L.map (·.1))) (rowF (L.map (·.1)) (l::T) x) A.length)=y at *
   rw[cuts_length] at k1
   have kr:∀c:Nat,(c:Int)<szL S l.1→Rep (ledS S (L.map (·.1))) y.2.2 (rowF (L.map (·.1)) T (goR (l.2.getD x.toNat []) (c:Int))) (y.1.getD c 0):=fun c hc=>by
    have:=(k2 c (by rw[cuts_length];omega)).1
    have e2:(cuts (ledS S (L.map (·.1))) (rowF (L.map (·.1)) (l::T) x) A.length)[c]'(by rw[cuts_length];omega)=cutP (rowF (L.map (·.1)) (l::T) x) A.length c:=by simp[cuts]
    rw[e2,rowF_cut w e] at this
    exact this
   have mk:=mkF_P (ledS S (L.map (·.1))) M y.2.2 (A.length:Int) y.1
   have hmul:¬One y.1→1<(l.2.getD x.toNat []).length:=fun hno=>by
    refine Classical.byContradiction (fun hn=>hno ?_)
    obtain⟨g,eg,hg'⟩:=wl.1.at hx
    have hne:l.2.getD x.toNat []≠[]:=by
     rw[eg]
     obtain⟨k,hk⟩:∃k,(szL S l.1).toNat=k+1:=⟨(szL S l.1).toNat-1,by omega⟩
     rw[hk,rlN]
     exact joinR_ne _ _ _
    have h1:∃v,l.2.getD x.toNat []=[v]:=by
     cases hh:l.2.getD x.toNat [] with
     |nil=>exact absurd hh hne
     |cons v t=>
      cases t with
      |nil=>exact⟨v,rfl⟩
      |cons u t=>rw[hh] at hn;simp at hn
    obtain⟨v,hv⟩:=h1
    rw[hv] at eg
    have hall:=rlN_one eg.symm
    refine One.of_all (z:=y.1.getD 0 0) (by omega) (fun c hc=>?_)
    have hc':(c:Int)<szL S l.1:=by omega
    have a1:=kr c hc'
    have a0:=kr 0 (by omega)
    rw[hv,eg,goR_rlN _ _ _ (by omega:c<(szL S l.1).toNat),hall c (by omega)] at a1
    rw[hv,eg,goR_rlN _ _ _ (by omega:0<(szL S l.1).toNat),hall 0 (by omega)] at a0
    exact Rep.one ok.ok a1 a0
   rcases mk with⟨hnm,m1,m2,m3⟩|⟨hm,ho1,m1,m2,m3⟩|⟨hm,ho1,_,m2,m3⟩|⟨hm,ho1,hnin,hfull,m1,m2,m3⟩|⟨hm,ho1,hnin,hroom,m1,m2,m3⟩
   ·exfalso
    rcases oz.res with⟨h1,_⟩|⟨h1,_⟩<;>omega
   ·rw[m3];exact⟨sk.own,fun h=>absurd m2 h⟩
   ·rw[m3];exact⟨sk.own,fun h=>absurd m2 h⟩
   ·rw[m3]
    refine⟨sk.own,fun _=>⟨hfull,A,l,T,x,e,hx,hmul ho1,fun⟨r,a⟩=>?_⟩⟩
    have i1:=ins_rep ok.ok a
    rw[ins_exp ok.ok hA hg] at i1
    have k:=kids_rep (step:=ins (ledS S (L.map (·.1))) M) (G:=fun c=>y.1.getD c 0) (N:=y.2.2) (cuts (ledS S (L.map (·.1))) (rowF (L.map (·.1)) (l::T) x) A.length) 0 (fun i hi=>by
     rw[Nat.zero_add]
     exact ins_rep ok.ok (k2 i hi).1)
    have ek:((List.range (cuts (ledS S (L.map (·.1))) (rowF (L.map (·.1)) (l::T) x) A.length).length).map fun i=>y.1.getD (0+i) 0)=y.1:=by
     apply List.ext_getElem
     ·rw[List.length_map,List.length_range,cuts_length];omega
     ·intro i g1 g2
      simp[List.getD_eq_getElem?_getD,List.getElem?_eq_getElem g2]
    rw[ek] at k
    unfold expF at i1
    rw[k] at i1
    simp only[if_true] at i1
    rw[Prod.ext_iff,Prod.ext_iff] at i1
    have:=i1.2.1
    rw[m2] at this
    cases this
   ·have az:=oz.res.resolve_right (fun h=>by omega)
    obtain⟨_,a,_⟩:=az
    rw[m3] at a ⊢
    rw[m1] at a
    refine⟨sk.own.app ok.ok (fun r h1 hr=>?_),fun h=>absurd m2 h⟩
    have h2:=hr.2
    rw[List.length_append,List.length_singleton] at h2
    have:r=(y.2.2.length:Int)+2:=by omega
    subst this
    exact⟨A,l,T,x,e,hx,hmul ho1,a⟩
  ·rw[if_neg h0]
   exact sk
noncomputable def foldF (S:List Int) (M:Int) (F:List Phi) (o:List Int):List Int×Int×List Nd:=kidsF (ins (ledS S o) M) [] (F.map (ledF o))
theorem ledF_alike (G:GD S F R L) {k:Nat} (hk:k<F.length):Alike (ledS S (L.map (·.1))) (rowF (L.map (·.1)) L (R.getD k 0)) (ledF (L.map (·.1)) F[k]):=fun _ hp=>(G.rt k hk).2 _ (led_pnt G.ord hp)
theorem fold_rows (G:GD S F R L) (h:Ok (ledS S (L.map (·.1))) M N):kidsF (ins (ledS S (L.map (·.1))) M) N (R.map (rowF (L.map (·.1)) L))=kidsF (ins (ledS S (L.map (·.1))) M) N (F.map (ledF (L.map (·.1)))):=by
 refine kids_congr _ _ N h (by rw[List.length_map,List.length_map,G.rl]) (fun i h1 h2 N hN=>?_)
 rw[List.length_map] at h1 h2
 have hg:Hang (ledS S (L.map (·.1))) (rowF (L.map (·.1)) L R[i]) 0:=rowF_hang (A:=[]) G.wf rfl
 have ha:=ledF_alike G h2
 rw[List.getD_eq_getElem?_getD,List.getElem?_eq_getElem h1] at ha
 simp only[List.getElem_map]
 exact⟨ins_alike hN hg ha,(ins_out hN (Nat.zero_le _) hg).ok⟩
theorem fold_out (hS:SzOk S) (G:GD S F R L) (h0:0≤M) (h1:M≤8192):OutK (ledS S (L.map (·.1))) M [] (F.map (ledF (L.map (·.1)))) 0 (foldF S M F (L.map (·.1))):=by
 have hO:=Ok.nil (ledS_ok hS G.ord) h0 h1
 refine kids_out _ _ hO (fun φ hφ N hN=>?_)
 obtain⟨ψ,hψ,rfl⟩:=List.mem_map.1 hφ
 obtain⟨k,hk,rfl⟩:=List.getElem_of_mem hψ
 have hg:Hang (ledS S (L.map (·.1))) (rowF (L.map (·.1)) L (R.getD k 0)) 0:=rowF_hang (A:=[]) G.wf rfl
 exact ins_out hN (Nat.zero_le _) (hg.alike (ledF_alike G hk))
theorem fold_nodes (hS:SzOk S) (G:GD S F R L) (h0:0≤M) (h1:M≤8192):((foldF S M F (L.map (·.1))).2.1=0∧(foldF S M F (L.map (·.1))).2.2.length=nodesL L)∨((foldF S M F (L.map (·.1))).2.1=2∧M<(nodesL L:Int)):=by
 have hO:=Ok.nil (ledS_ok hS G.ord) h0 h1
 have s:=kids_own (A:=[]) (T:=L) (M:=M) (ledS_ok hS G.ord) rfl G.wf G.len (fun N h o x hx=>ins_own hS G.wf G.len L [] rfl N h o x hx) (R.map (rowF (L.map (·.1)) L)) [] hO OwnN.nil (fun φ hφ=>by
  obtain⟨x,hx,rfl⟩:=List.mem_map.1 hφ
  obtain⟨k,hk,rfl⟩:=List.getElem_of_mem hx
  have:=(G.rt k (by rw[←G.rl];exact hk)).1
  rw[List.getD_eq_getElem?_getD,List.getElem?_eq_getElem hk] at this
  exact⟨_,this,rfl⟩)
 rw[fold_rows G hO] at s
 have o:=fold_out hS G h0 h1
 unfold foldF at *
 rcases o.res with⟨e,k1,k2⟩|⟨e,_⟩
 ·refine .inl ⟨e,Nat.le_antisymm (ownN_le o.ok s.own) (all_le hS G o.ok (fun φ hφ=>?_))⟩
  obtain⟨k,hk,rfl⟩:=List.getElem_of_mem hφ
  have:=(k2 k (by rw[List.length_map];exact hk)).1
  rw[List.getElem_map] at this
  exact⟨_,this⟩
 ·exact .inr ⟨e,full_lt o.ok s.own (s.full (by omega))⟩
theorem many_nodes (hS:SzOk S) (G:GD S F R L) {W:List Lay} (w:Wf S W) {m:Nat} (hm:m≤L.length) {most:Nat} (h8:most≤8192) (hw:most+2<wid W)
 (hr:∀x:Int,2≤x→inW W x→∃k,∃hk:k<F.length,∃q,Pnt S q∧∀p,Pnt S p→sayL W x p=F[k] (mixP ((L.map (·.1)).take m) q p)):most<nodesL L:=by
 rcases fold_nodes hS G (M:=8192) (by omega) (by omega) with⟨e,hn⟩|⟨_,h⟩
 ·have o:=fold_out hS G (M:=8192) (by omega) (by omega)
  have ho:=G.ord
  obtain⟨_,k1,k2⟩:=o.res.resolve_right (fun h=>by omega)
  generalize foldF S 8192 F (L.map (·.1))=z at *
  have:=pigR (R:=fun(x j:Nat)=>Rep (ledS S (L.map (·.1))) z.2.2 (fun p'=>sayL W ((x:Int)+2) (ledP (L.map (·.1)) p')) ((j:Int)+2)) (List.range (wid W-2)) (List.range z.2.2.length) List.nodup_range (fun x hx=>by
   have hx':=List.mem_range.1 hx
   have hxW:inW W ((x:Int)+2):=⟨by omega,by omega⟩
   obtain⟨k,hk,q,hq,hs⟩:=hr ((x:Int)+2) (by omega) hxW
   have a0:=(k2 k (by rw[List.length_map];exact hk)).1
   rw[List.getElem_map] at a0
   obtain⟨r,a,_⟩:=rep_cuts ho o.ok a0 hq m (by rw[List.length_map];exact hm)
   have a':Rep (ledS S (L.map (·.1))) z.2.2 (fun p'=>sayL W ((x:Int)+2) (ledP (L.map (·.1)) p')) r:=a.alike (fun p' hp'=>(hs _ (led_pnt ho hp')).symm)
   have hr2:2≤r:=by
    rcases Int.lt_or_le r 2 with h4|h4
    ·exfalso
     have h5:=a.1.1
     refine low_const hS w hxW (by omega) (z:=decide (r=1)) (fun p hp=>?_)
     refine led_all ho (w.dep _) (ψ:=fun _=>decide (r=1)) (fun _ _ _=>rfl) (fun p' hp'=>?_) p hp
     rw[←sayR_low (N:=z.2.2) (p:=p') (by omega:¬2≤r)]
     exact(a'.2 p' hp').symm
    ·exact h4
   refine⟨(r-2).toNat,List.mem_range.2 (by have:=a.1.2;omega),?_⟩
   rw[show(((r-2).toNat:Nat):Int)+2=r by omega]
   exact a') (fun x hx y hy j h1 h2=>by
   have hx':=List.mem_range.1 hx
   have hy':=List.mem_range.1 hy
   have:=say_ne hS w (x:=(x:Int)+2) (y:=(y:Int)+2) ⟨by omega,by omega⟩ ⟨by omega,by omega⟩ (led_all ho (w.dep _) (w.dep _) (rep_eq h1 h2))
   omega)
  rw[List.length_range,List.length_range] at this
  omega
 ·omega
end
theorem put_all {α:Type} [DecidableEq α]:∀(cs L:List α),L.Nodup→∃U,(L++U).Nodup∧(∀r∈U,r∈cs)∧∀r∈cs,r∈L++U
 |[],L,h=>⟨[],by simpa using h,by simp,by simp⟩
 |c::cs,L,h=>by
  obtain⟨U0,e0,h0⟩:=plc_ext L c
  have n0:=plc_nodup h c
  obtain⟨U,h1,h2,h3⟩:=put_all cs (plc L c) n0
  have mc:=plc_mem L c
  rw[e0] at h1 h3 mc
  refine⟨U0++U,by rw[←List.append_assoc];exact h1,fun r hr=>?_,fun r hr=>?_⟩
  ·rcases List.mem_append.1 hr with hr|hr
   ·rw[h0 r hr];exact List.mem_cons_self
   ·exact List.mem_cons_of_mem _ (h2 r hr)
  ·rw[←List.append_assoc]
   rcases List.mem_cons.1 hr with rfl|hr
   ·exact List.mem_append_left _ mc
   ·exact h3 r hr
section
variable {S:List Int} {X T:List Lay} {b:Lay}
theorem split_ex (W:Wf S (X++b::T)):∀(d i:Nat),i+d=X.length→∀(Y:List Lay),TInv S X b T Y→∀(t:Int),inW (X.drop i++b::T) t→∃Y' x,TInv S X b T Y'∧ExtL Y Y'∧SplOk S X b T Y' i t x
 |0,i,hd,Y,h,t,ht=>by
  have e:i=X.length:=by omega
  subst e
  rw[List.drop_length,List.nil_append] at ht
  obtain⟨x,hx,_⟩:=W.tail.1.at ht
  exact⟨Y,x,h,ExtL.refl _,SplOk.base h.len W.tail ht hx⟩
 |d+1,i,hd,Y,h,t,ht=>by
  have hi:i<X.length:=by omega
  have ed:X.drop i++b::T=X[i]::(X.drop (i+1)++b::T):=by rw[List.drop_eq_getElem_cons hi];rfl
  have Wi:Wf S (X[i]::(X.drop (i+1)++b::T)):=by rw[←ed];exact W.drop i
  have ht':=ht
  rw[ed] at ht'
  obtain⟨g,hg,hgw⟩:=Wi.1.at ht'
  have key:∀n,n≤(szL S (X[i]).1).toNat→∃Y',∃H:Nat→Nat→Int,TInv S X b T Y'∧ExtL Y Y'∧∀a,a<n→SplOk S X b T Y' (i+1) (g a) (H a):=by
   intro n
   induction n with
   |zero=>exact fun _=>⟨Y,fun _ _=>0,h,ExtL.refl _,fun a ha=>by omega⟩
   |succ n ih=>
    intro hn
    obtain⟨Y1,H1,t1,e1,s1⟩:=ih (by omega)
    obtain⟨Y2,x2,t2,e2,s2⟩:=split_ex W d (i+1) (by omega) Y1 t1 (g n) (hgw n (by omega))
    refine⟨Y2,fun a=>if a=n then x2 else H1 a,t2,e1.trans e2,fun a ha=>?_⟩
    by_cases e:a=n
    ·subst e;simp only[if_true];exact s2
    ·simp only[if_neg e];exact(s1 a (by omega)).ext t1 e2
  obtain⟨Y1,H,t1,e1,s1⟩:=key _ (Nat.le_refl _)
  have hiy:i<Y1.length:=by rw[t1.len];exact hi
  have Wy:Wf S (Y1[i]::(Y1.drop (i+1)++T)):=by
   have:=t1.wf.drop i
   rw[List.drop_eq_getElem_cons hiy] at this
   exact this
  obtain⟨U,u1,u2,u3⟩:=put_all ((List.range (szL S b.1).toNat).map fun c=>rlN (fun a=>H a c) (szL S (X[i]).1).toNat) (Y1[i]).2 Wy.1.nod
  have hex:∀c,c<(szL S b.1).toNat→∃k:Nat,((Y1[i]).2++U)[k]? =some (rlN (fun a=>H a c) (szL S (X[i]).1).toNat):=fun c hc=>by
   obtain⟨k,hk,e⟩:=List.getElem_of_mem (u3 _ (List.mem_map.2 ⟨c,List.mem_range.2 hc,rfl⟩))
   exact⟨k,by rw[List.getElem?_eq_getElem hk,e]⟩
  obtain⟨idx,hidx⟩:∃idx:Nat→Int,∀c,c<(szL S b.1).toNat→0≤idx c∧((Y1[i]).2++U)[(idx c).toNat]? =some (rlN (fun a=>H a c) (szL S (X[i]).1).toNat):=by
   classical
   refine⟨fun c=>if hc:c<(szL S b.1).toNat then(((hex c hc).choose:Nat):Int) else 0,fun c hc=>?_⟩
   simp only[dif_pos hc]
   exact⟨Int.natCast_nonneg _,by rw[Int.toNat_natCast];exact(hex c hc).choose_spec⟩
  obtain⟨r1,r2,r3⟩:=turn_ok t1 W hi ht (List.getElem?_eq_getElem hi) (List.getElem?_eq_getElem hiy) hg s1 u1 (fun r hr=>by
   obtain⟨c,hc,e⟩:=List.mem_map.1 (u2 r hr)
   exact⟨c,List.mem_range.1 hc,e.symm⟩) hidx
  exact⟨_,idx,r1,e1.trans r2,r3⟩
theorem rows_ex (hS:SzOk S) (W:Wf S (X++b::T)):∃Y,∃fr:List (List Rn),TInv S X b T Y∧fr.length=wid (X++b::T)∧∀t (ht:t<fr.length),∃x,fr[t]=rlN x (szL S b.1).toNat∧SplOk S X b T Y 0 (t:Int) x:=by
 have key:∀n,n≤wid (X++b::T)→∃Y,∃fr:List (List Rn),TInv S X b T Y∧fr.length=n∧∀t (ht:t<fr.length),∃x,fr[t]=rlN x (szL S b.1).toNat∧SplOk S X b T Y 0 (t:Int) x:=by
  intro n
  induction n with
  |zero=>exact fun _=>⟨_,[],TInv.start hS W,rfl,fun t ht=>by cases ht⟩
  |succ n ih=>
   intro hn
   obtain⟨Y1,fr,t1,l1,s1⟩:=ih (by omega)
   obtain⟨Y2,x,t2,e2,s2⟩:=split_ex W X.length 0 (by omega) Y1 t1 (n:Int) (by rw[List.drop_zero];exact⟨by omega,by omega⟩)
   refine⟨Y2,fr++[rlN x (szL S b.1).toNat],t2,by rw[List.length_append,l1];rfl,fun t ht=>?_⟩
   rw[List.length_append,List.length_singleton] at ht
   by_cases e:t<fr.length
   ·rw[List.getElem_append_left e]
    obtain⟨y,y1,y2⟩:=s1 t e
    exact⟨y,y1,y2.ext t1 e2⟩
   ·obtain rfl:t=fr.length:=by omega
    rw[List.getElem_append_right (Nat.le_refl _)]
    refine⟨x,by simp,?_⟩
    rw[l1]
    exact s2
 exact key _ (Nat.le_refl _)
theorem lift_ex {A:List Lay} {F:List Phi} {R:List Int} (hS:SzOk S) (G:GD S F R (A++(X++b::T))):∃L',GD S F R L'∧L'.map (·.1)=A.map (·.1)++b.1::(X.map (·.1)++T.map (·.1)):=by
 obtain⟨Y,fr,h1,h2,h3⟩:=rows_ex hS (G.wf.tail (A:=A))
 refine⟨_,lift_good hS G h1 h2 h3,?_⟩
 rw[List.map_append,List.map_cons,List.map_append,h1.lv]
end
section
variable {S:List Int} {F:List Phi} {R:List Int} {L:List Lay} {o:List Int}
theorem order_step (hS:SzOk S) (ho:IsOrd S o) (G:GD S F R L) {k:Nat} (hk:k<o.length) (ht:(L.map (·.1)).take k=o.take k):∃L',GD S F R L'∧(L'.map (·.1)).take (k+1)=o.take (k+1):=by
 have hL:IsOrd S (L.map (·.1)):=G.wf.ord G.len
 have hr:=ho.rng _ (List.getElem_mem hk)
 have hm:o[k]∈L.map (·.1):=by
  have:=hL.mem (j:=(o[k]).toNat) (by omega)
  rwa [Int.toNat_of_nonneg hr.1] at this
 have hn:o[k]∉o.take k:=fun hin=>by
  obtain⟨i,hi,e⟩:=List.getElem_of_mem hin
  rw[List.length_take] at hi
  rw[List.getElem_take] at e
  exact List.pairwise_iff_getElem.1 ho.nod i k (by omega) hk (by omega) e
 have hd:o[k]∈(L.drop k).map (·.1):=by
  rw[←List.take_append_drop k (L.map (·.1)),List.mem_append,ht] at hm
  rw[List.map_drop]
  exact hm.resolve_left hn
 obtain⟨b,hb,eb⟩:=List.mem_map.1 hd
 obtain⟨X,T,eD⟩:=List.append_of_mem hb
 have G':GD S F R (L.take k++(X++b::T)):=by rw[←eD,List.take_append_drop];exact G
 obtain⟨L',g1,g2⟩:=lift_ex hS G'
 have hlen:(L.take k).length=k:=by
  have h1:=hL.len
  have h2:=ho.len
  rw[List.length_map] at h1
  rw[List.length_take]
  omega
 refine⟨L',g1,?_⟩
 rw[g2,List.take_append,List.length_map,hlen,List.take_of_length_le (by rw[List.length_map,hlen];omega),show k+1-k=1 by omega,List.map_take,ht,List.take_succ_eq_append_getElem hk,eb]
 rfl
theorem order_ex (hS:SzOk S) (ho:IsOrd S o) (G:GD S F R L):∃L',GD S F R L'∧L'.map (·.1)=o:=by
 have key:∀k,k≤o.length→∃L',GD S F R L'∧(L'.map (·.1)).take k=o.take k:=by
  intro k
  induction k with
  |zero=>exact fun _=>⟨L,G,by simp⟩
  |succ k ih=>
   intro hk
   obtain⟨L1,g1,g2⟩:=ih (by omega)
   exact order_step hS ho g1 (by omega) g2
 obtain⟨L',g1,g2⟩:=key o.length (Nat.le_refl _)
 refine⟨L',g1,?_⟩
 have h1:=(g1.wf.ord g1.len).len
 have h2:=ho.len
 rwa [List.take_length,List.take_of_length_le (by omega)] at g2
end
end Go.Proofs.Ytnddhkhmbjeefaa

