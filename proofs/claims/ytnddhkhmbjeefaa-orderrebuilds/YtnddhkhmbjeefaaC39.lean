/-
  What is made where a function is laid in: of which levels the new nodes are; where there is no room. In pure words; of no program: no condition.
-/
import Derived.Test.YtnddhkhmbjeefaaC09
import Derived.Test.YtnddhkhmbjeefaaC17
import Derived.WalkSmall
import Derived.Test.YtnddhkhmbjeefaaC02
namespace Go.Proofs.Ytnddhkhmbjeefaa
open Go.RowKit
def NewAt (l:Nat) (N N':List Nd):Prop:=∀k x,N.length≤k→N'[k]? =some x→(l:Int)≤x.1
def Asks (S:List Int) (φ:Phi) (i:Nat):Prop:=∃p c,Pnt S p∧((c:Nat):Int)<S.getD i 0∧φ (upd p i c)≠φ p
section
variable {S:List Int} {M:Int} {N N1 N2:List Nd} {φ ψ:Phi} {l i c:Nat} {ks:List Int} {q:Nat}
theorem NewAt.refl:NewAt l N N:=fun k x hk h=>by rw[List.getElem?_eq_none hk] at h;cases h
theorem NewAt.trans (a:NewAt l N N1) (h:∃T,N2=N1++T) (b:NewAt l N1 N2):NewAt l N N2:=fun k x hk hx=>by
 obtain⟨T,rfl⟩:=h
 rcases Nat.lt_or_ge k N1.length with h1|h1
 ·rw[List.getElem?_append_left h1] at hx
  exact a k x hk hx
 ·exact b k x h1 hx
theorem NewAt.mono (a:NewAt l N N1) {l':Nat} (h:l'≤l):NewAt l' N N1:=fun k x hk hx=>by have:=a k x hk hx;omega
theorem kids_new {step:List Nd→Phi→Int×Int×List Nd} {l':Nat}:∀(fs:List Phi) (N:List Nd),Ok S M N→(∀φ∈fs,∀N,Ok S M N→Out S M N φ l (step N φ)∧NewAt l' N (step N φ).2.2)→NewAt l' N (kidsF step N fs).2.2
 |[],N,_,_=>by unfold kidsF;exact NewAt.refl
 |φ::t,N,h,hs=>by
  obtain⟨o,n⟩:=hs φ (by simp) N h
  have ih:=kids_new t (step N φ).2.2 o.ok (fun ψ hψ=>hs ψ (by simp[hψ]))
  have ex:=(kids_out t (step N φ).2.2 o.ok (fun ψ hψ N hN=>(hs ψ (by simp[hψ]) N hN).1)).ext
  unfold kidsF
  split
  ·split
   ·exact n.trans ex ih
   ·exact n.trans ex ih
  ·exact n
theorem mk_new (lv:Int) (hl:(l:Int)≤lv):NewAt l N (mkF S M N lv ks).2.2:=by
 have mk:=mkF_P S M N lv ks
 rcases mk with⟨_,_,_,e⟩|⟨_,_,_,_,e⟩|⟨_,_,_,_,e⟩|⟨_,_,_,_,_,_,e⟩|⟨_,_,_,_,_,_,e⟩
 ·rw[e];exact NewAt.refl
 ·rw[e];exact NewAt.refl
 ·rw[e];exact NewAt.refl
 ·rw[e];exact NewAt.refl
 ·rw[e]
  intro k x hk hx
  rw[List.getElem?_append_right hk] at hx
  rcases Nat.eq_zero_or_pos (k-N.length) with h|h
  ·rw[h] at hx
   simp at hx
   rw[←hx]
   exact hl
  ·rw[List.getElem?_eq_none (by simp;omega)] at hx
   cases hx
theorem mk_ext (lv:Int):∃T,(mkF S M N lv ks).2.2=N++T:=by
 rcases mkF_P S M N lv ks with⟨_,_,_,e⟩|⟨_,_,_,_,e⟩|⟨_,_,_,_,e⟩|⟨_,_,_,_,_,_,e⟩|⟨_,_,_,_,_,_,e⟩
 ·exact⟨[],by rw[e];simp⟩
 ·exact⟨[],by rw[e];simp⟩
 ·exact⟨[],by rw[e];simp⟩
 ·exact⟨[],by rw[e];simp⟩
 ·exact⟨_,e⟩
theorem ins_new:∀(d l:Nat),S.length-l=d→l≤S.length→∀N,Ok S M N→∀φ,Hang S φ l→NewAt l N (ins S M N φ).2.2:=by
 intro d
 induction d with
 |zero=>
  intro l hd hl N h φ hg
  have e:l=S.length:=by omega
  subst e
  obtain⟨r,a⟩:=Hang.const (N:=N) h.sz hg
  rw[ins_rep h a]
  exact NewAt.refl
 |succ d ih=>
  intro l hd hl N h φ hg
  have hl':l<S.length:=by omega
  rw[ins_exp h hl' hg]
  have kn:NewAt (l+1) N (kidsF (ins S M) N (cuts S φ l)).2.2:=kids_new (l:=l+1) _ _ h (fun ψ hψ N hN=>by
   obtain⟨c,hc,rfl⟩:=cuts_mem hψ
   exact⟨ins_out hN (by omega) (hg.cut hc),ih (l+1) (by omega) (by omega) N hN _ (hg.cut hc)⟩)
  unfold expF
  split
  ·exact(kn.mono (by omega)).trans (mk_ext _) (mk_new _ (Int.le_refl _))
  ·exact kn.mono (by omega)
theorem cuts_out (h:Ok S M N) (hl:l<S.length) (hg:Hang S φ l):OutK S M N (cuts S φ l) (l+1) (kidsF (ins S M) N (cuts S φ l)):=kids_out _ _ h (fun ψ hψ N hN=>by
 obtain⟨c,hc,rfl⟩:=cuts_mem hψ
 exact ins_out hN (by omega) (hg.cut hc))
theorem cuts_new (h:Ok S M N) (hl:l<S.length) (hg:Hang S φ l):NewAt (l+1) N (kidsF (ins S M) N (cuts S φ l)).2.2:=kids_new (l:=l+1) _ _ h (fun ψ hψ N hN=>by
 obtain⟨c,hc,rfl⟩:=cuts_mem hψ
 exact⟨ins_out hN (by omega) (hg.cut hc),ins_new _ _ rfl (by omega) N hN _ (hg.cut hc)⟩)
theorem norep (h1:Ok S M N1) (h:Ok S M N) (ex:∃T,N1=N++T) (nw:NewAt (i+1) N N1) (ha:Asks S φ i) (hn:¬ ∃r,Rep S N φ r):¬ ∃r,Rep S N1 φ r:=by
 rintro⟨r,hr,hs⟩
 obtain⟨T,rfl⟩:=ex
 by_cases hN:hasR N r
 ·exact hn ⟨r,hN,fun p hp=>by rw[←sayR_app h hp hN];exact hs p hp⟩
 ·have h2:(N.length:Int)+2≤r:=by
   rcases Int.lt_or_le r ((N.length:Int)+2) with h3|h3
   ·exact absurd ⟨hr.1,h3⟩ hN
   ·exact h3
  obtain⟨l',ks,hd⟩:=h1.ndAt (by omega) hr.2
  have hl:((i+1:Nat):Int)≤(l':Int):=nw _ _ (by omega) hd.at_
  have hh:=say_hang h1 _ r (Nat.le_refl _) hr (i+1) (by rw[hd.lev];exact hl)
  obtain⟨p,c,hp,hc,hne⟩:=ha
  refine hne ?_
  rw[←hs _ (hp.upd hc),←hs p hp]
  exact hh _ _ (hp.upd hc) hp (fun j hj _=>upd_ne p c (by omega))
theorem ins_cases (h:Ok S M N) (hi:i<S.length) (hg:Hang S φ i) (ha:Asks S φ i) (hn:¬ ∃r,Rep S N φ r) (hk:(kidsF (ins S M) N (cuts S φ i)).2.1=0):
 (((kidsF (ins S M) N (cuts S φ i)).2.2.length:Int)<M∧ins S M N φ=(((kidsF (ins S M) N (cuts S φ i)).2.2.length:Int)+2,0,(kidsF (ins S M) N (cuts S φ i)).2.2++[((i:Int),(kidsF (ins S M) N (cuts S φ i)).1)]))∨(M≤((kidsF (ins S M) N (cuts S φ i)).2.2.length:Int)∧(ins S M N φ).2.1=2):=by
 have o:=ins_out h (by omega) hg
 have ok:=cuts_out h hi hg
 have nr:=norep ok.ok h ok.ext (cuts_new h hi hg) ha hn
 rw[ins_exp h hi hg] at o ⊢
 unfold expF at o ⊢
 rw[if_pos hk] at o ⊢
 generalize kidsF (ins S M) N (cuts S φ i)=y at *
 have mk:=mkF_P S M y.2.2 (i:Int) y.1
 have res:=o.res
 have hrep:(mkF S M y.2.2 (i:Int) y.1).2.2=y.2.2→(mkF S M y.2.2 (i:Int) y.1).2.1≠0:=fun e e0=>by
  rcases res with⟨_,a,_⟩|⟨a,_⟩
  ·rw[e] at a
   exact nr ⟨_,a⟩
  ·omega
 rcases mk with⟨_,_,e,_⟩|⟨_,_,_,e,e2⟩|⟨_,_,_,e,e2⟩|⟨_,_,_,hm,_,e,_⟩|⟨_,_,_,hm,e1,e2,e3⟩
 ·rcases res with⟨a,_⟩|⟨a,_⟩<;>omega
 ·exact absurd e (hrep e2)
 ·exact absurd e (hrep e2)
 ·exact .inr ⟨hm,e⟩
 ·exact .inl ⟨hm,Prod.ext e1 (Prod.ext e2 e3)⟩
def OverP (S:List Int) (M:Int) (q:Nat) (N:List Nd) (φ:Phi):Prop:=(ins S M N φ).2.1=0→M<((ins S M N φ).2.2.length:Int)+(q:Int)
theorem OverP.zero (h:Ok S M N) (hl:l≤S.length) (hg:Hang S φ l) (o:OverP S M 0 N φ):(ins S M N φ).2.1=2:=by
 have x:=ins_out h hl hg
 rcases x.res with⟨e,_⟩|⟨e,_⟩
 ·have:=o e
  have:=x.ok.few
  omega
 ·exact e
theorem OverP.here (h:Ok S M N) (hl:l≤S.length) (hg:Hang S φ l) (hn:¬ ∃r,Rep S N φ r) (hm:M<(N.length:Int)+(q:Int)+1):OverP S M q N φ:=fun e=>by
 have x:=ins_out h hl hg
 obtain⟨T,eT⟩:=x.ext
 rcases x.res with⟨_,a,_⟩|⟨a,_⟩
 ·rw[eT] at a ⊢
  rcases T with _|⟨y,T⟩
  ·rw[List.append_nil] at a
   exact absurd ⟨_,a⟩ hn
  ·rw[List.length_append,List.length_cons]
   omega
 ·omega
theorem kids_app {step:List Nd→Phi→Int×Int×List Nd}:∀(t:List Phi) (N:List Nd) (ks:List Int) (N1:List Nd),kidsF step N t=(ks,0,N1)→∀u,(kidsF step N (t++u)).2=(kidsF step N1 u).2∧((kidsF step N1 u).2.1=0→(kidsF step N (t++u)).1=ks++(kidsF step N1 u).1)
 |[],N,ks,N1,h,u=>by
  simp only[kidsF,Prod.mk.injEq] at h
  obtain⟨rfl,_,rfl⟩:=h
  exact⟨rfl,fun _=>rfl⟩
 |ψ::t,N,ks,N1,h,u=>by
  unfold kidsF at h
  rw[List.cons_append]
  by_cases h1:(step N ψ).2.1=0
  ·rw[if_pos h1] at h
   by_cases h2:(kidsF step (step N ψ).2.2 t).2.1=0
   ·rw[if_pos h2] at h
    simp only[Prod.mk.injEq] at h
    obtain⟨rfl,_,rfl⟩:=h
    obtain⟨e1,e2⟩:=kids_app t (step N ψ).2.2 _ _ (Prod.ext rfl (Prod.ext h2 rfl)) u
    rw[show kidsF step N (ψ::(t++u))=if (step N ψ).2.1=0 then(if (kidsF step (step N ψ).2.2 (t++u)).2.1=0 then((step N ψ).1::(kidsF step (step N ψ).2.2 (t++u)).1,0,(kidsF step (step N ψ).2.2 (t++u)).2.2) else([],(kidsF step (step N ψ).2.2 (t++u)).2.1,(kidsF step (step N ψ).2.2 (t++u)).2.2)) else([],(step N ψ).2.1,(step N ψ).2.2) from rfl,if_pos h1,e1]
    by_cases h3:(kidsF step (kidsF step (step N ψ).2.2 t).2.2 u).2.1=0
    ·rw[if_pos h3]
     exact⟨Prod.ext h3.symm rfl,fun _=>by rw[e2 h3];rfl⟩
    ·rw[if_neg h3]
     exact⟨rfl,fun h=>absurd h h3⟩
   ·rw[if_neg h2] at h
    simp only[Prod.mk.injEq] at h
    exact absurd h.2.1 h2
  ·rw[if_neg h1] at h
   simp only[Prod.mk.injEq] at h
   exact absurd h.2.1 h1
theorem OverP.cut (h:Ok S M N) (hi:i<S.length) (hg:Hang S φ i) (ha:Asks S φ i) (hn:¬ ∃r,Rep S N φ r) (hc:(c:Int)<S.getD i 0) (hk:kidsF (ins S M) N ((cuts S φ i).take c)=(ks,0,N1)) (h1:Ok S M N1) (o:OverP S M (q+1) N1 (cutP φ i c)):OverP S M q N φ:=fun e=>by
 have hcl:c<(cuts S φ i).length:=by rw[cuts_length];omega
 have hget:(cuts S φ i)[c]=cutP φ i c:=by simp[cuts]
 have hsplit:cuts S φ i=(cuts S φ i).take c++([cutP φ i c]++(cuts S φ i).drop (c+1)):=by
  rw[←hget,List.singleton_append,List.getElem_cons_drop,List.take_append_drop]
 obtain⟨e1,_⟩:=kids_app _ _ _ _ hk ([cutP φ i c]++(cuts S φ i).drop (c+1))
 rw[←hsplit] at e1
 have hw:(kidsF (ins S M) N (cuts S φ i)).2.1=0:=by
  rw[ins_exp h hi hg] at e
  unfold expF at e
  by_cases hh:(kidsF (ins S M) N (cuts S φ i)).2.1=0
  ·exact hh
  ·rw[if_neg hh] at e
   exact absurd e hh
 have hx:=ins_out h1 (show i+1≤S.length by omega) (hg.cut hc)
 have hone:(ins S M N1 (cutP φ i c)).2.1=0:=by
  rw[e1] at hw
  rw[List.singleton_append] at hw
  unfold kidsF at hw
  by_cases hh:(ins S M N1 (cutP φ i c)).2.1=0
  ·exact hh
  ·rw[if_neg hh] at hw
   exact absurd hw hh
 have o1:=o hone
 have hex:∃T,(kidsF (ins S M) N (cuts S φ i)).2.2=(ins S M N1 (cutP φ i c)).2.2++T:=by
  have hkx:kidsF (ins S M) N1 [cutP φ i c]=([(ins S M N1 (cutP φ i c)).1],0,(ins S M N1 (cutP φ i c)).2.2):=by
   unfold kidsF
   rw[if_pos hone]
   unfold kidsF
   simp
  obtain⟨e3,_⟩:=kids_app _ _ _ _ hkx ((cuts S φ i).drop (c+1))
  rw[e1,e3]
  exact(kids_out ((cuts S φ i).drop (c+1)) _ hx.ok (fun ψ hψ N hN=>by
   obtain⟨c',hc',rfl⟩:=cuts_mem (List.mem_of_mem_drop hψ)
   exact ins_out hN (show i+1≤S.length by omega) (hg.cut hc'))).ext
 obtain⟨T,eT⟩:=hex
 rcases ins_cases h hi hg ha hn hw with⟨_,e4⟩|⟨_,e4⟩
 ·rw[e4,eT]
  simp only[List.length_append,List.length_singleton]
  omega
 ·omega
end
abbrev Dpd (S:List Int) (N:List Nd) (f:Int) (l:Nat):Prop:=Asks S (fun p=>sayR N p f) l
section
variable {S:List Int} {M:Int} {N T:List Nd} {f:Int} {φ:Phi} {o:List Int} {l j i c:Nat} {ks:List Int} {p p':Nat→Nat}
theorem upd_comm (p:Nat→Nat) {a b:Nat} (h:a≠b) (x y:Nat):upd (upd p a x) b y=upd (upd p b y) a x:=by
 funext k
 by_cases h1:k=a
 ·subst h1;rw[upd_ne _ _ h,upd_at,upd_at]
 ·by_cases h2:k=b
  ·subst h2;rw[upd_at,upd_ne _ _ h1,upd_at]
  ·rw[upd_ne _ _ h2,upd_ne _ _ h1,upd_ne _ _ h1,upd_ne _ _ h2]
theorem upd_twice (p:Nat→Nat) (a x y:Nat):upd (upd p a x) a y=upd p a y:=by
 funext k
 by_cases h:k=a
 ·subst h;rw[upd_at,upd_at]
 ·rw[upd_ne _ _ h,upd_ne _ _ h,upd_ne _ _ h]
theorem Asks.lt (h:Asks S φ l):l<S.length:=by
 obtain⟨_,c,_,hc,_⟩:=h
 rcases Nat.lt_or_ge l S.length with h1|h1
 ·exact h1
 ·rw[List.getD_eq_getElem?_getD,List.getElem?_eq_none h1] at hc
  simp only[Option.getD_none] at hc
  omega
theorem dep_low (h:¬2≤f):¬Dpd S N f l:=by
 rintro⟨p,c,_,_,hne⟩
 exact hne (by show sayR N (upd p l c) f=sayR N p f;rw[sayR_low h,sayR_low h])
theorem dep_app (h:Ok S M N) (hf:hasR N f):Dpd S (N++T) f l↔Dpd S N f l:=by
 constructor
 ·rintro⟨p,c,hp,hc,hne⟩
  exact⟨p,c,hp,hc,fun e=>hne (by show sayR (N++T) (upd p l c) f=sayR (N++T) p f;rw[sayR_app h (hp.upd hc) hf,sayR_app h hp hf];exact e)⟩
 ·rintro⟨p,c,hp,hc,hne⟩
  exact⟨p,c,hp,hc,fun e=>hne (by replace e:sayR (N++T) (upd p l c) f=sayR (N++T) p f:=e;rw[sayR_app h (hp.upd hc) hf,sayR_app h hp hf] at e;exact e)⟩
theorem dep_node (h:Ok S M N) (h2:2≤f) (hf:f<(N.length:Int)+2) (hn:NdAt S N f l ks):Dpd S N f j↔j=l∨∃c,c<ks.length∧Dpd S N (ks.getD c 0) j:=by
 constructor
 ·rintro⟨p,c,hp,hc,hne⟩
  by_cases e:j=l
  ·exact .inl e
  ·refine .inr ⟨p l,hn.cls hp,p,c,hp,hc,fun e1=>hne ?_⟩
   show sayR N (upd p j c) f=sayR N p f
   rw[hn.says h (hp.upd hc) h2 hf,hn.says h hp h2 hf,upd_ne p c (fun x=>e x.symm)]
   exact e1
 ·rintro(rfl|⟨c,hc,p,c',hp,hc',hne⟩)
  ·by_cases hx:∃c,c<ks.length∧ks.getD c 0≠ks.getD 0 0
   ·obtain⟨c,hc,hne⟩:=hx
    have hpos:=hn.pos h
    obtain⟨a0,a1,_⟩:=hn.kid c hc
    obtain⟨b0,b1,_⟩:=hn.kid 0 hpos
    have hcc:(c:Int)<S.getD j 0:=by have:=hn.len;omega
    have hcz:((0:Nat):Int)<S.getD j 0:=by have:=hn.len;omega
    by_cases hs:∀p,Pnt S p→sayR N p (ks.getD c 0)=sayR N p (ks.getD 0 0)
    ·exact absurd (h.canon ⟨a0,by omega⟩ ⟨b0,by omega⟩ hs) hne
    ·obtain⟨p,hp⟩:=Classical.not_forall.1 hs
     obtain⟨hp,hpn⟩:=Classical.not_imp.1 hp
     refine⟨upd p j 0,c,hp.upd hcz,hcc,fun e=>hpn ?_⟩
     rw[hn.kid_says h hp h2 hf hc,hn.kid_says h hp h2 hf hpos]
     simp only[upd_twice] at e
     exact e
   ·exact absurd (One.of_all (z:=ks.getD 0 0) (hn.pos h) (fun c hc=>by
     by_cases e:ks.getD c 0=ks.getD 0 0
     ·exact e
     ·exact absurd ⟨c,hc,e⟩ hx)) hn.one
  ·by_cases e:j=l
   ·subst e
    obtain⟨k0,k1,k2⟩:=hn.kid c hc
    exact absurd (sayR_upd h hp hc' _ _ (Nat.le_refl _) k0 (by omega) k2) hne
   ·have hcc:(c:Int)<S.getD l 0:=by have:=hn.len;omega
    refine⟨upd p l c,c',hp.upd hcc,hc',fun e1=>hne ?_⟩
    show sayR N (upd p j c') (ks.getD c 0)=sayR N p (ks.getD c 0)
    rw[hn.kid_says h (hp.upd hc') h2 hf hc,hn.kid_says h hp h2 hf hc,upd_comm p e]
    exact e1
theorem dep_some (h:Ok S M N) (h2:2≤f) (hf:f<(N.length:Int)+2):∃l,Dpd S N f l:=by
 obtain⟨l,ks,hn⟩:=h.ndAt h2 hf
 exact⟨l,(dep_node h h2 hf hn).2 (.inl rfl)⟩
theorem led_set (ho:IsOrd S o) (hi:i<o.length) (c:Nat):ledP o (upd p' i c)=upd (ledP o p') (o[i]).toNat c:=by
 funext k
 have hr:=ho.rng _ (List.getElem_mem hi)
 by_cases e:k=(o[i]).toNat
 ·subst e
  rw[upd_at]
  unfold ledP
  rw[show(((o[i]).toNat:Nat):Int)=o[i] by omega,posO_nodup ho.nod (List.getElem?_eq_getElem hi),upd_at]
 ·rw[upd_ne _ _ e]
  unfold ledP
  refine upd_ne _ _ (fun x=>e ?_)
  by_cases hm:(k:Int)∈o
  ·have:=posO_get hm
   rw[x,List.getElem?_eq_getElem hi] at this
   injection this with this
   omega
  ·have:=posO_not hm
   omega
theorem cut_led (ho:IsOrd S o) (hi:i<o.length) (c:Nat):cutP (ledF o φ) i c=ledF o (cutP φ (o[i]).toNat c):=by
 funext p
 show φ (ledP o (upd p i c))=φ (upd (ledP o p) (o[i]).toNat c)
 rw[led_set ho hi]
theorem hang_new (ho:IsOrd S o) (hg:Hang S φ 0):∀i,i≤o.length→(∀k (h:k<o.length),k<i→¬Asks S φ (o[k]).toNat)→Hang (ledS S o) (ledF o φ) i:=by
 intro i
 induction i with
 |zero=>
  intro _ _ p q hp hq hj
  refine hg _ _ (led_pnt ho hp) (led_pnt ho hq) (fun j _ hjS=>?_)
  unfold ledP
  exact hj _ (Nat.zero_le _) (by rw[ledS_length ho,←ho.len];exact posO_lt (ho.mem hjS))
 |succ i ih=>
  intro hi hna p q hp hq hj
  have hi':i<o.length:=by omega
  have h1:=ih (by omega) (fun k hk hki=>hna k hk (by omega))
  have hlt:i<(ledS S o).length:=by rw[ledS_length ho,←ho.len];exact hi'
  have hqi:((q i:Nat):Int)<(ledS S o).getD i 0:=hq i hlt
  rw[←h1 (upd p i (q i)) q (hp.upd hqi) hq (fun j h2 h3=>by
   by_cases e:j=i
   ·subst e;rw[upd_at]
   ·rw[upd_ne _ _ e];exact hj j (by omega) h3)]
  show φ (ledP o p)=φ (ledP o (upd p i (q i)))
  rw[led_set ho hi']
  have hc:((q i:Nat):Int)<S.getD (o[i]).toNat 0:=by
   rw[ledS_at (List.getElem?_eq_getElem hi')] at hqi
   exact hqi
  by_cases e:φ (upd (ledP o p) (o[i]).toNat (q i))=φ (ledP o p)
  ·exact e.symm
  ·exact absurd ⟨_,_,led_pnt ho hp,hc,e⟩ (hna i hi' (by omega))
theorem asks_new (ho:IsOrd S o) (hg:Hang S φ 0) (hi:i<o.length) (ha:Asks S φ (o[i]).toNat):Asks (ledS S o) (ledF o φ) i:=by
 obtain⟨p,c,hp,hc,hne⟩:=ha
 have hP:Pnt (ledS S o) (fun k=>p ((o.getD k 0).toNat)):=fun k hk=>by
  rw[ledS_length ho,←ho.len] at hk
  have hr:=ho.rng _ (List.getElem_mem hk)
  rw[ledS_at (List.getElem?_eq_getElem hk)]
  show((p ((o.getD k 0).toNat):Nat):Int)<_
  rw[List.getD_eq_getElem?_getD,List.getElem?_eq_getElem hk]
  exact hp _ (by show(o[k]).toNat<_;omega)
 have hc':(c:Int)<(ledS S o).getD i 0:=by rw[ledS_at (List.getElem?_eq_getElem hi)];exact hc
 have same:∀k,k<S.length→ledP o (fun k=>p ((o.getD k 0).toNat)) k=p k:=fun k hk=>by
  have hm:=ho.mem hk
  unfold ledP
  show p ((o.getD (posO o (k:Int)) 0).toNat)=p k
  rw[List.getD_eq_getElem?_getD,posO_get hm]
  simp
 refine⟨_,c,hP,hc',fun e=>hne ?_⟩
 have e':φ (ledP o (upd (fun k=>p ((o.getD k 0).toNat)) i c))=φ (ledP o (fun k=>p ((o.getD k 0).toNat))):=e
 rw[led_set ho hi] at e'
 rw[←hg _ p (led_pnt ho hP) hp (fun j _ hj=>same j hj),←e']
 refine hg _ _ (hp.upd hc) ((led_pnt ho hP).upd hc) (fun j _ hj=>?_)
 by_cases x:j=(o[i]).toNat
 ·subst x;rw[upd_at,upd_at]
 ·rw[upd_ne _ _ x,upd_ne _ _ x,same j hj]
end
end Go.Proofs.Ytnddhkhmbjeefaa
namespace Go.Proofs.Ytnddhkhmbjeefaa
open Go.RowKit Go.Lib Go.Maps
abbrev MB:Int:=4398046511104
def hrN (lv:Int) (ks:List Int):Int:=ks.foldl (fun n k=>(n*31+k)%1000000007) lv
def hrF (lv:Int) (ks:List Int):Int:=(hrN lv ks)%16384
theorem getD_left {α:Type} {X T:List α} {d:α} {i:Nat} (h:i<X.length):(X++T).getD i d=X.getD i d:=by rw[List.getD_eq_getElem?_getD,List.getD_eq_getElem?_getD,List.getElem?_append_left h]
theorem getD_snoc {α:Type} {X:List α} {x d:α} {i:Nat} (h:i=X.length):(X++[x]).getD i d=x:=by subst h;simp[List.getD_eq_getElem?_getD]
theorem getD_here {α:Type} {X:List α} {x d:α} {i:Nat} (h:i<X.length):(X.set i x).getD i d=x:=by rw[List.getD_eq_getElem?_getD,List.getElem?_set_self h];rfl
theorem getD_else {α:Type} {X:List α} {x d:α} {i j:Nat} (h:i≠j):(X.set i x).getD j d=X.getD j d:=by rw[List.getD_eq_getElem?_getD,List.getElem?_set_ne h,←List.getD_eq_getElem?_getD]
theorem hrF_rng (lv:Int) (ks:List Int):0≤hrF lv ks∧hrF lv ks<16384:=by unfold hrF;omega
def Chn (X:List Int):Int→List Int→Prop
 |h,[]=>h= -1
 |h,k::C=>h=k∧2≤k∧X.getD k.toNat 0<k∧Chn X (X.getD k.toNat 0) C
structure HashOk (D:List Nd) (H X:List Int):Prop where
 hl:H.length=16384
 xl:X.length=D.length+2
 at':∀r:Nat,r<16384→∃C,Chn X (H.getD r 0) C∧∀k:Int,k∈C↔2≤k∧k<(D.length:Int)+2∧hrF (D.getD (k-2).toNat (0,[])).1 (D.getD (k-2).toNat (0,[])).2=(r:Int)
structure AskOk (S:List Int) (D:List Nd) (A:List Int):Prop where
 al:A.length=D.length+2
 at':∀f:Nat,f<D.length+2→∃m:Nat,A.getD f 0=(m:Int)∧m<4096∧∀l,m.testBit l=true↔Dpd S D (f:Int) l
section
variable {S:List Int} {D:List Nd} {H X A:List Int} {lv:Int} {ks:List Int} {w:World}
theorem chn_app:∀ {C:List Int} {h:Int} {T:List Int},Chn X h C→(∀k∈C,k<(X.length:Int))→Chn (X++T) h C
 |[],_,_,e,_=>e
 |k::C,h,T,⟨e,h2,h3,h4⟩,hk=>by
  have hx:(X++T).getD k.toNat 0=X.getD k.toNat 0:=by
   have:=hk k (by simp)
   exact getD_left (by omega)
  exact⟨e,h2,by rw[hx];exact h3,by rw[hx];exact chn_app h4 (fun x hx=>hk x (by simp[hx]))⟩
theorem chn_low:∀ {C:List Int} {h:Int},Chn X h C→h= -1∨(2≤h∧h∈C)
 |[],_,e=>.inl e
 |k::C,h,⟨e,h2,_⟩=>.inr ⟨by rw[e];exact h2,by rw[e];simp⟩
theorem HashOk.nil (hl:H=List.replicate 16384 (-1)):HashOk [] H [-1,-1]:=⟨by rw[hl,List.length_replicate],rfl,fun r hr=>⟨[],by
 rw[hl,List.getD_eq_getElem?_getD,List.getElem?_replicate,if_pos hr]
 rfl,fun k=>⟨fun h=>by simp at h,fun h=>by simp at h;omega⟩⟩⟩
theorem HashOk.add (h:HashOk D H X) {r:Nat} (hr:r<16384) (e:hrF lv ks=(r:Int)):HashOk (D++[(lv,ks)]) (H.set r ((D.length:Int)+2)) (X++[H.getD r 0]):=by
 refine⟨by rw[List.length_set,h.hl],by rw[List.length_append,List.length_append,h.xl];simp,fun q hq=>?_⟩
 obtain⟨C,c1,c2⟩:=h.at' q hq
 have hX:∀k∈C,k<(X.length:Int):=fun k hk=>by have:=((c2 k).1 hk).2.1;rw[h.xl];omega
 have hold:∀k:Int,2≤k→k<(D.length:Int)+2→(D++[(lv,ks)]).getD (k-2).toNat (0,[])=D.getD (k-2).toNat (0,[]):=fun k h1 h2=>by
  exact getD_left (by omega)
 have hnew:(D++[(lv,ks)]).getD (((D.length:Int)+2)-2).toNat (0,[])=(lv,ks):=by
  exact getD_snoc (by omega)
 by_cases hqr:q=r
 ·subst hqr
  refine⟨((D.length:Int)+2)::C,⟨?_,by omega,?_,?_⟩,fun k=>?_⟩
  ·exact getD_here (by rw[h.hl];exact hq)
  ·rw[getD_snoc (by rw[h.xl];omega)]
   rcases chn_low c1 with e1|⟨_,e1⟩
   ·rw[e1];omega
   ·have:=((c2 _).1 e1).2.1
    exact this
  ·rw[getD_snoc (by rw[h.xl];omega)]
   exact chn_app c1 hX
  ·rw[List.mem_cons,c2]
   constructor
   ·rintro(rfl|⟨h1,h2,h3⟩)
    ·exact⟨by omega,by rw[List.length_append];simp;omega,by rw[hnew];exact e⟩
    ·exact⟨h1,by rw[List.length_append];simp;omega,by rw[hold k h1 h2];exact h3⟩
   ·rintro⟨h1,h2,h3⟩
    by_cases hk:k=(D.length:Int)+2
    ·exact .inl hk
    ·have h2':k<(D.length:Int)+2:=by rw[List.length_append] at h2;simp at h2;omega
     exact .inr ⟨h1,h2',by rw[hold k h1 h2'] at h3;exact h3⟩
 ·refine⟨C,?_,fun k=>?_⟩
  ·rw[getD_else (fun x=>hqr x.symm)]
   exact chn_app c1 hX
  ·rw[c2]
   constructor
   ·rintro⟨h1,h2,h3⟩
    exact⟨h1,by rw[List.length_append];simp;omega,by rw[hold k h1 h2];exact h3⟩
   ·rintro⟨h1,h2,h3⟩
    by_cases hk:k=(D.length:Int)+2
    ·subst hk
     rw[hnew,e] at h3
     omega
    ·have h2':k<(D.length:Int)+2:=by rw[List.length_append] at h2;simp at h2;omega
     exact⟨h1,h2',by rw[hold k h1 h2'] at h3;exact h3⟩
theorem AskOk.nil:AskOk S [] [0,0]:=⟨rfl,fun f hf=>⟨0,by
 have:f=0∨f=1:=by simp at hf;omega
 rcases this with rfl|rfl<;>rfl,by decide,fun l=>⟨fun h=>by simp at h,fun h=>absurd h (dep_low (by simp at hf;omega))⟩⟩⟩
theorem AskOk.add (h:AskOk S D A) (hD:Ok S MB D) (hE:Ok S MB (D++[(lv,ks)])) {l0:Nat} (e:lv=(l0:Int)) {m:Nat} (hm:m<4096) (hb:∀l,m.testBit l=true↔l=l0∨∃c,c<ks.length∧Dpd S D (ks.getD c 0) l) (hk:∀c,c<ks.length→hasR D (ks.getD c 0)):AskOk S (D++[(lv,ks)]) (A++[(m:Int)]):=by
 refine⟨by rw[List.length_append,List.length_append,h.al];simp,fun f hf=>?_⟩
 by_cases hfn:f<D.length+2
 ·obtain⟨m',a1,a2,a3⟩:=h.at' f hfn
  refine⟨m',?_,a2,fun l=>(a3 l).trans (dep_app hD ⟨by omega,by omega⟩).symm⟩
  rw[getD_left (by rw[h.al];exact hfn)]
  exact a1
 ·have hfe:f=D.length+2:=by rw[List.length_append] at hf;simp at hf;omega
  subst hfe
  refine⟨m,?_,hm,fun l=>?_⟩
  ·exact getD_snoc h.al.symm
  ·have h2:(2:Int)≤((D.length+2:Nat):Int):=by omega
   have h3:((D.length+2:Nat):Int)<((D++[(lv,ks)]).length:Int)+2:=by rw[List.length_append];simp;omega
   obtain⟨l',ks',hn⟩:=hE.ndAt h2 h3
   have ha:=hn.at_
   rw[show(((D.length+2:Nat):Int)-2).toNat=D.length by omega,List.getElem?_append_right (Nat.le_refl _)] at ha
   simp at ha
   obtain⟨rfl,rfl⟩:=ha
   have:l'=l0:=by omega
   subst this
   rw[hb,dep_node hE h2 h3 hn]
   constructor
   ·rintro(e1|⟨c,hc,hd⟩)
    ·exact .inl e1
    ·exact .inr ⟨c,hc,(dep_app hD (hk c hc)).2 hd⟩
   ·rintro(e1|⟨c,hc,hd⟩)
    ·exact .inl e1
    ·exact .inr ⟨c,hc,(dep_app hD (hk c hc)).1 hd⟩
set_option maxRecDepth 100000 in
theorem row_any (ao:Option Addr) (cap:Nat) (ks:List Int) (lv:Int) (h0:0≤lv) (h1:lv≤1000) (hl:ks.length≤256) (hz:ZAt w ao ks) (hk:∀k∈ks,0≤k∧k≤8796093022208):
 Calls Try.prog 95 #[.int .i64 lv,.slice ao ks.length cap] w fun e w'=>e=.returned (.int .i64 (hrF lv ks))∧w'=w:=by
 have HZ:=hide hz
 have HK:=hide hk
 clear hz hk
 go_enter Try.func95,Try.ntmps95
 go_wp2
 go_loopw [5,6] (fun v5 v6 wr=>∃(i:Nat) (n:Int),v5=.int .i64 n∧v6=.int .i64 (i:Int)∧i≤ks.length∧Hid (n=hrN lv (ks.take i))∧0≤n∧n≤1000000007∧wr=w) (fun _ v _=>ks.length-(RowKit.intOf v).toNat)
 case atStart=>exact⟨0,lv,rfl,rfl,Nat.zero_le _,rfl,h0,by omega,rfl⟩
 case round=>
  obtain⟨i,n,rfl,rfl,hi,HN,hn0,hn1,rfl⟩:=hrel
  by_cases hlt:i<ks.length
  ·have hlt':(i:Int)<(ks.length:Int):=by omega
   obtain⟨b,off,rfl,hb,q1⟩:=HZ.out.get hlt
   obtain⟨k,hkk⟩:∃k,ks.getD i 0=k:=⟨_,rfl⟩
   rw[hkk] at q1
   have hgk:ks[i]=k:=by rw[←hkk,List.getD_eq_getElem?_getD,List.getElem?_eq_getElem hlt];rfl
   have hkr:0≤k∧k≤8796093022208:=by rw[←hgk];exact HK.out _ (List.getElem_mem _)
   have e1:IntKind.i64.wrap (n*31)=n*31:=by simp[IntKind.wrap,IntKind.bits,IntKind.signed];omega
   have e2:IntKind.i64.wrap (n*31+k)=n*31+k:=by simp[IntKind.wrap,IntKind.bits,IntKind.signed];omega
   have et:(n*31+k).tmod 1000000007=(n*31+k)%1000000007:=Int.tmod_eq_emod_of_nonneg (by omega)
   have e3:IntKind.i64.wrap ((n*31+k)%1000000007)=(n*31+k)%1000000007:=by simp[IntKind.wrap,IntKind.bits,IntKind.signed];omega
   have HN2:Hid ((n*31+k)%1000000007=hrN lv (ks.take (i+1))):=by
    unfold Hid
    rw[List.take_succ_eq_append_getElem hlt,hrN,List.foldl_append,hgk]
    show _=((hrN lv (ks.take i))*31+k)%1000000007
    rw[←HN.out]
   have hge:0≤(n*31+k)%1000000007:=by omega
   have hlt2:(n*31+k)%1000000007≤1000000007:=by omega
   clear hkk hgk
   go_wp2
   go_roundw
   case rel=>exact⟨i+1,_,rfl,by go_num,by omega,HN2,hge,hlt2,by first|exact rfl|exact trivial⟩
   case measure=>simp[RowKit.intOf];omega
  ·have hlt':¬(i:Int)<(ks.length:Int):=by omega
   have e:i=ks.length:=by omega
   have HF:Hid (n%16384=hrF lv ks):=by unfold Hid hrF;rw[HN.out,e,List.take_length]
   have et:n.tmod 16384=n%16384:=Int.tmod_eq_emod_of_nonneg hn0
   have e3:IntKind.i64.wrap (n%16384)=n%16384:=by simp[IntKind.wrap,IntKind.bits,IntKind.signed];omega
   clear e
   go_wp2
   go_ret
   exact⟨by rw[←HF.out];rfl,rfl⟩
end
end Go.Proofs.Ytnddhkhmbjeefaa

