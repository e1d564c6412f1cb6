/-
  What is made where a function of points is laid into an arena: one thing, however it is come to. In pure words; of no program: no condition.
-/
import Derived.Test.YtnddhkhmbjeefaaC08
namespace Go.Proofs.Ytnddhkhmbjeefaa
open Go.RowKit
abbrev Phi:=(Nat→Nat)→Bool
def Rep (S:List Int) (N:List Nd) (φ:Phi) (r:Int):Prop:=hasR N r∧∀p,Pnt S p→sayR N p r=φ p
def Hang (S:List Int) (φ:Phi) (l:Nat):Prop:=∀p p',Pnt S p→Pnt S p'→(∀j,l≤j→j<S.length→p j=p' j)→φ p=φ p'
def cutP (φ:Phi) (l c:Nat):Phi:=fun p=>φ (upd p l c)
def Alike (S:List Int) (φ ψ:Phi):Prop:=∀p,Pnt S p→φ p=ψ p
noncomputable def mkF (S:List Int) (M:Int) (N:List Nd) (lv:Int) (ks:List Int):Int×Int×List Nd:=by
 classical
 exact if ¬May S N lv ks then(0,1,N) else if One ks then(ks.getD 0 0,0,N) else if h:∃i:Nat,N[i]? =some (lv,ks) then((h.choose:Int)+2,0,N) else if M≤(N.length:Int) then(0,2,N) else((N.length:Int)+2,0,N++[(lv,ks)])
theorem mkF_P (S:List Int) (M:Int) (N:List Nd) (lv:Int) (ks:List Int):MkP S M N lv ks (mkF S M N lv ks).1 (mkF S M N lv ks).2.1 (mkF S M N lv ks).2.2:=by
 classical
 unfold mkF
 by_cases h1:May S N lv ks
 ·rw[if_neg (fun h=>h h1)]
  by_cases h2:One ks
  ·rw[if_pos h2];exact .inr (.inl ⟨h1,h2,rfl,rfl,rfl⟩)
  ·rw[if_neg h2]
   by_cases h3:∃i:Nat,N[i]? =some (lv,ks)
   ·rw[dif_pos h3];exact .inr (.inr (.inl ⟨h1,h2,⟨h3.choose,h3.choose_spec,rfl⟩,rfl,rfl⟩))
   ·rw[dif_neg h3]
    have h4:(lv,ks)∉N:=fun h=>by
     obtain⟨i,hi,e⟩:=List.getElem_of_mem h
     exact h3 ⟨i,by rw[List.getElem?_eq_getElem hi,e]⟩
    by_cases h5:M≤(N.length:Int)
    ·rw[if_pos h5];exact .inr (.inr (.inr (.inl ⟨h1,h2,h4,h5,rfl,rfl,rfl⟩)))
    ·rw[if_neg h5];exact .inr (.inr (.inr (.inr ⟨h1,h2,h4,by omega,rfl,rfl,rfl⟩)))
 ·rw[if_pos h1];exact .inl ⟨h1,rfl,rfl,rfl⟩
theorem mkF_of {S:List Int} {M:Int} {N N':List Nd} {lv f e:Int} {ks:List Int} (h:N.Nodup) (k:MkP S M N lv ks f e N'):mkF S M N lv ks=(f,e,N'):=by
 obtain⟨a,b,c⟩:=MkP.one h (mkF_P S M N lv ks) k
 rw[←a,←b,←c]
def kidsF (step:List Nd→Phi→Int×Int×List Nd):List Nd→List Phi→List Int×Int×List Nd
 |N,[]=>([],0,N)
 |N,φ::t=>if (step N φ).2.1=0 then(if (kidsF step (step N φ).2.2 t).2.1=0 then((step N φ).1::(kidsF step (step N φ).2.2 t).1,0,(kidsF step (step N φ).2.2 t).2.2) else([],(kidsF step (step N φ).2.2 t).2.1,(kidsF step (step N φ).2.2 t).2.2)) else([],(step N φ).2.1,(step N φ).2.2)
def cuts (S:List Int) (φ:Phi) (l:Nat):List Phi:=(List.range (S.getD l 0).toNat).map (cutP φ l)
noncomputable def expF (S:List Int) (M:Int) (step:List Nd→Phi→Int×Int×List Nd) (N:List Nd) (φ:Phi) (l:Nat):Int×Int×List Nd:=
 if (kidsF step N (cuts S φ l)).2.1=0 then mkF S M (kidsF step N (cuts S φ l)).2.2 (l:Int) (kidsF step N (cuts S φ l)).1 else(0,(kidsF step N (cuts S φ l)).2.1,(kidsF step N (cuts S φ l)).2.2)
noncomputable def can (S:List Int) (M:Int):Nat→List Nd→Phi→Int×Int×List Nd
 |0,N,φ=>by classical exact if h:∃r,Rep S N φ r then(h.choose,0,N) else(0,0,N)
 |d+1,N,φ=>by classical exact if h:∃r,Rep S N φ r then(h.choose,0,N) else expF S M (can S M d) N φ (S.length-(d+1))
section
variable {S:List Int} {M:Int} {N N' T:List Nd} {p:Nat→Nat} {f g r:Int} {φ ψ:Phi} {d l:Nat}
theorem Rep.one (h:Ok S M N) (a:Rep S N φ r) (b:Rep S N φ f):r=f:=h.canon a.1 b.1 (fun p hp=>(a.2 p hp).trans (b.2 p hp).symm)
theorem Rep.alike (a:Rep S N φ r) (h:Alike S φ ψ):Rep S N ψ r:=⟨a.1,fun p hp=>(a.2 p hp).trans (h p hp)⟩
theorem Rep.app (h:Ok S M N) (a:Rep S N φ r):Rep S (N++T) φ r:=⟨hasR_app a.1,fun p hp=>by rw[sayR_app h hp a.1];exact a.2 p hp⟩
theorem Alike.symm (h:Alike S φ ψ):Alike S ψ φ:=fun p hp=>(h p hp).symm
theorem can_rep (h:Ok S M N) (a:Rep S N φ r):can S M d N φ=(r,0,N):=by
 have h0:∃r,Rep S N φ r:=⟨r,a⟩
 have e:h0.choose=r:=Rep.one h h0.choose_spec a
 cases d with
 |zero=>unfold can;rw[dif_pos h0,e]
 |succ d=>unfold can;rw[dif_pos h0,e]
theorem can_exp (h:¬ ∃r,Rep S N φ r):can S M (d+1) N φ=expF S M (can S M d) N φ (S.length-(d+1)):=by
 rw[can,dif_neg h]
theorem Hang.const (h:SzOk S) (a:Hang S φ S.length):∃r,Rep S N φ r:=by
 have e:∀p,Pnt S p→φ p=φ (fun _=>0):=fun p hp=>a p _ hp (Pnt.zero h) (fun j h1 h2=>by omega)
 cases hz:φ (fun _=>0)
 ·exact⟨0,⟨by omega,by omega⟩,fun p hp=>by rw[e p hp,hz,sayR_low (by omega)];rfl⟩
 ·exact⟨1,⟨by omega,by omega⟩,fun p hp=>by rw[e p hp,hz,sayR_low (by omega)];rfl⟩
theorem Hang.mono (a:Hang S φ l) {l':Nat} (h:l'≤l):Hang S φ l':=fun p p' hp hp' hj=>a p p' hp hp' (fun j h1 h2=>hj j (by omega) h2)
theorem Hang.cut (a:Hang S φ l) {c:Nat} (hc:(c:Int)<S.getD l 0):Hang S (cutP φ l c) (l+1):=fun p p' hp hp' hj=>a _ _ (hp.upd hc) (hp'.upd hc) (fun j h1 h2=>by
 by_cases e:j=l
 ·subst e;rw[upd_at,upd_at]
 ·rw[upd_ne p c e,upd_ne p' c e];exact hj j (by omega) h2)
theorem Hang.same (a:Hang S φ (l+1)) {c:Nat} (hc:(c:Int)<S.getD l 0):Alike S (cutP φ l c) φ:=fun p hp=>a _ _ (hp.upd hc) hp (fun j h1 h2=>upd_ne p c (by omega))
theorem Hang.alike (a:Hang S φ l) (h:Alike S φ ψ):Hang S ψ l:=fun p p' hp hp' hj=>by rw[←h p hp,←h p' hp'];exact a p p' hp hp' hj
theorem say_hang (h:Ok S M N):∀(k:Nat) (f:Int),f.toNat≤k→hasR N f→∀l:Nat,(l:Int)≤lvl S N f→Hang S (fun p=>sayR N p f) l:=by
 intro k
 induction k with
 |zero=>intro f h1 hf l _ p p' _ _ _;have:=hf.1;show sayR N p f=sayR N p' f;rw[sayR_low (by omega),sayR_low (by omega)]
 |succ k ih=>
  intro f h1 hf l hl p p' hp hp' hj
  show sayR N p f=sayR N p' f
  by_cases h2:2≤f
  ·obtain⟨l',ks,hn⟩:=h.ndAt h2 hf.2
   have e:=hn.lev
   rw[hn.says h hp h2 hf.2,hn.says h hp' h2 hf.2,←hj l' (by omega) hn.lt]
   obtain⟨k0,k1,k2⟩:=hn.kid (p l') (hn.cls hp)
   exact ih _ (by omega) ⟨k0,by have:=hf.2;omega⟩ l (by omega) p p' hp hp' hj
  ·rw[sayR_low h2,sayR_low h2]
theorem cuts_length:(cuts S φ l).length=(S.getD l 0).toNat:=by simp[cuts]
theorem cuts_mem {ψ:Phi} (h:ψ∈cuts S φ l):∃c:Nat,(c:Int)<S.getD l 0∧ψ=cutP φ l c:=by
 obtain⟨c,hc,rfl⟩:=List.mem_map.1 h
 exact⟨c,by have:=List.mem_range.1 hc;omega,rfl⟩
structure Out (S:List Int) (M:Int) (N:List Nd) (φ:Phi) (l:Nat) (x:Int×Int×List Nd):Prop where
 ok:Ok S M x.2.2
 ext:∃T,x.2.2=N++T
 res:(x.2.1=0∧Rep S x.2.2 φ x.1∧(l:Int)≤lvl S x.2.2 x.1)∨(x.2.1=2∧x.1=0)
structure OutK (S:List Int) (M:Int) (N:List Nd) (fs:List Phi) (l:Nat) (x:List Int×Int×List Nd):Prop where
 ok:Ok S M x.2.2
 ext:∃T,x.2.2=N++T
 res:(x.2.1=0∧x.1.length=fs.length∧∀i (h:i<fs.length),Rep S x.2.2 fs[i] (x.1.getD i 0)∧(l:Int)≤lvl S x.2.2 (x.1.getD i 0))∨(x.2.1=2∧x.1=[])
theorem kids_out {step:List Nd→Phi→Int×Int×List Nd}:∀(fs:List Phi) (N:List Nd),Ok S M N→(∀φ∈fs,∀N,Ok S M N→Out S M N φ l (step N φ))→OutK S M N fs l (kidsF step N fs)
 |[],N,h,_=>⟨h,⟨[],by simp[kidsF]⟩,.inl ⟨rfl,rfl,fun i h=>by cases h⟩⟩
 |φ::t,N,h,hs=>by
  have o1:=hs φ (by simp) N h
  obtain⟨T1,e1⟩:=o1.ext
  unfold kidsF
  generalize step N φ=x at *
  rcases o1.res with⟨h1,h2,h3⟩|⟨h1,h2⟩
  ·have o2:=kids_out t x.2.2 o1.ok (fun ψ hψ=>hs ψ (by simp[hψ]))
   rw[if_pos h1]
   obtain⟨T2,e2⟩:=o2.ext
   generalize kidsF step x.2.2 t=y at *
   rcases o2.res with⟨g1,g2,g3⟩|⟨g1,g2⟩
   ·rw[if_pos g1]
    refine⟨o2.ok,⟨T1++T2,by rw[e2,e1,List.append_assoc]⟩,.inl ⟨rfl,by simp[g2],fun i hi=>?_⟩⟩
    cases i with
    |zero=>
     show Rep S y.2.2 φ x.1∧(l:Int)≤lvl S y.2.2 x.1
     rw[e2]
     exact⟨h2.app o1.ok,by rw[lvl_app h2.1];exact h3⟩
    |succ i=>exact g3 i (by simpa using hi)
   ·rw[if_neg (by omega)]
    exact⟨o2.ok,⟨T1++T2,by rw[e2,e1,List.append_assoc]⟩,.inr ⟨g1,rfl⟩⟩
  ·rw[if_neg (by omega)]
   exact⟨o1.ok,⟨T1,e1⟩,.inr ⟨h1,rfl⟩⟩
theorem exp_out {step:List Nd→Phi→Int×Int×List Nd} (h:Ok S M N) (hl:l<S.length) (hs:∀c:Nat,(c:Int)<S.getD l 0→∀N,Ok S M N→Out S M N (cutP φ l c) (l+1) (step N (cutP φ l c))):Out S M N φ l (expF S M step N φ l):=by
 have hsz:=h.sz.each _ (show S.getD l 0∈S by rw[List.getD_eq_getElem?_getD,List.getElem?_eq_getElem hl];exact List.getElem_mem _)
 have o:=kids_out (l:=l+1) (cuts S φ l) N h (fun ψ hψ N hN=>by obtain⟨c,hc,rfl⟩:=cuts_mem hψ;exact hs c hc N hN)
 unfold expF
 obtain⟨T,eT⟩:=o.ext
 rcases o.res with⟨h1,h2,h3⟩|⟨h1,h2⟩
 ·rw[if_pos h1]
  generalize kidsF step N (cuts S φ l)=y at *
  have hlen:(y.1.length:Int)=S.getD l 0:=by rw[h2,cuts_length];omega
  have hget:∀i,i<y.1.length→Rep S y.2.2 (cutP φ l i) (y.1.getD i 0)∧((l+1:Nat):Int)≤lvl S y.2.2 (y.1.getD i 0):=fun i hi=>by
   have:=h3 i (by rw[←h2];exact hi)
   have e:(cuts S φ l)[i]'(by rw[←h2];exact hi)=cutP φ l i:=by simp[cuts]
   rwa [e] at this
  have hmay:May S y.2.2 (l:Int) y.1:=⟨by omega,by omega,by rw[Int.toNat_natCast];exact hlen,fun x hx=>by
   obtain⟨i,hi,rfl⟩:=List.getElem_of_mem hx
   have e:y.1.getD i 0=y.1[i]:=by rw[List.getD_eq_getElem?_getD,List.getElem?_eq_getElem hi];rfl
   have:=hget i hi
   rw[e] at this
   exact⟨this.1.1,by omega⟩⟩
  have mk:=mkF_P S M y.2.2 (l:Int) y.1
  generalize mkF S M y.2.2 (l:Int) y.1=z at *
  have hpos:0<y.1.length:=by omega
  have hok:=mk.ok o.ok
  have hor:z.2.1=0∨(z.2.1=2∧z.1=0∧z.2.2=y.2.2):=by
   rcases mk with⟨h1,_⟩|⟨_,_,_,h1,_⟩|⟨_,_,_,h1,_⟩|⟨_,_,_,_,h1,h2,h3⟩|⟨_,_,_,_,_,h1,_⟩
   ·exact absurd hmay h1
   ·exact .inl h1
   ·exact .inl h1
   ·exact .inr ⟨h2,h1,h3⟩
   ·exact .inl h1
  rcases hor with h0|⟨h0,h4,h5⟩
  ·rw[h0] at mk
   have hT:∃T',z.2.2=y.2.2++T':=by
    rcases mk with⟨h1,_⟩|⟨_,_,_,_,h1⟩|⟨_,_,_,_,h1⟩|⟨_,_,_,_,_,h1,_⟩|⟨_,_,_,_,_,_,h1⟩
    ·exact absurd hmay h1
    ·exact⟨[],by rw[h1];simp⟩
    ·exact⟨[],by rw[h1];simp⟩
    ·omega
    ·exact⟨_,h1⟩
   obtain⟨T',eT'⟩:=hT
   refine⟨hok,⟨T++T',by rw[eT',eT,List.append_assoc]⟩,.inl ⟨h0,⟨(MkP.says o.ok (Pnt.zero h.sz) mk).1,fun p hp=>?_⟩,?_⟩⟩
   ·rw[(MkP.says o.ok hp mk).2.1,Int.toNat_natCast]
    have hc:p l<y.1.length:=by have:=hp l hl;omega
    rw[(hget _ hc).1.2 p hp]
    unfold cutP
    congr 1
    funext j
    by_cases e:j=l
    ·subst e;rw[upd_at]
    ·rw[upd_ne p _ e]
   ·rcases mk with⟨h1,_⟩|⟨m,o1,h6,_,h7⟩|⟨m,o1,⟨i,hi,h6⟩,_,h7⟩|⟨_,_,_,_,_,h1,_⟩|⟨m,o1,hn,hl1,h6,_,h7⟩
    ·exact absurd hmay h1
    ·rw[h6,h7]
     have:=(hget 0 hpos).2
     omega
    ·rw[h6,h7,lvl_at hi];omega
    ·omega
    ·rw[h6,h7,lvl_at (lv:=(l:Int)) (ks:=y.1) (i:=y.2.2.length) (by simp)];omega
  ·exact⟨hok,⟨T,by rw[h5,eT]⟩,.inr ⟨h0,h4⟩⟩
 ·rw[if_neg (by omega)]
  exact⟨o.ok,⟨T,eT⟩,.inr ⟨h1,rfl⟩⟩
end
section
variable {S:List Int} {M:Int} {N N' T:List Nd} {p:Nat→Nat} {f g r:Int} {φ ψ:Phi} {d l:Nat}
theorem rep_lvl (h:Ok S M N) (a:Rep S N φ r) (hg:Hang S φ l) (hl:l≤S.length):(l:Int)≤lvl S N r:=by
 rcases Int.lt_or_le (lvl S N r) (l:Int) with h1|h1
 ·exfalso
  by_cases h2:2≤r
  ·obtain⟨l',ks,hn⟩:=h.ndAt h2 a.1.2
   have e:=hn.lev
   have hc:=hn.pos h
   obtain⟨k0,k1,k2⟩:=hn.kid 0 hc
   have hc':((0:Nat):Int)<S.getD l' 0:=by have:=hn.len;omega
   have:ks.getD 0 0=r:=h.canon ⟨k0,by have:=a.1.2;omega⟩ a.1 (fun p hp=>by
    rw[hn.kid_says h hp h2 a.1.2 hc,a.2 _ (hp.upd hc'),a.2 p hp]
    exact hg _ _ (hp.upd hc') hp (fun j h3 _=>upd_ne p 0 (by omega)))
   omega
  ·rw[lvl_low h2] at h1;omega
 ·exact h1
theorem can_out:∀(d:Nat),d≤S.length→∀(N:List Nd),Ok S M N→∀φ,Hang S φ (S.length-d)→Out S M N φ (S.length-d) (can S M d N φ):=by
 intro d
 induction d with
 |zero=>
  intro _ N h φ hg
  obtain⟨r,a⟩:=Hang.const (N:=N) h.sz hg
  rw[can_rep h a]
  exact⟨h,⟨[],by simp⟩,.inl ⟨rfl,a,rep_lvl h a hg (by omega)⟩⟩
 |succ d ih=>
  intro hd N h φ hg
  by_cases hr:∃r,Rep S N φ r
  ·obtain⟨r,a⟩:=hr
   rw[can_rep h a]
   exact⟨h,⟨[],by simp⟩,.inl ⟨rfl,a,rep_lvl h a hg (by omega)⟩⟩
  ·rw[can_exp hr]
   refine exp_out h (by omega) (fun c hc N hN=>?_)
   have e:S.length-(d+1)+1=S.length-d:=by omega
   have:=ih (by omega) N hN (cutP φ (S.length-(d+1)) c) (by rw[←e];exact hg.cut hc)
   rw[e]
   exact this
theorem kids_congr {step step':List Nd→Phi→Int×Int×List Nd}:∀(fs gs:List Phi) (N:List Nd),Ok S M N→fs.length=gs.length→(∀i (h1:i<fs.length) (h2:i<gs.length),∀N,Ok S M N→step N fs[i]=step' N gs[i]∧Ok S M (step N fs[i]).2.2)→kidsF step N fs=kidsF step' N gs
 |[],[],_,_,_,_=>rfl
 |[],_::_,_,_,h,_=>by simp at h
 |_::_,[],_,_,h,_=>by simp at h
 |φ::t,ψ::u,N,h,hl,hs=>by
  obtain⟨e,ok⟩:=hs 0 (by simp) (by simp) N h
  simp only[List.getElem_cons_zero] at e ok
  have:=kids_congr t u (step N φ).2.2 ok (by simpa using hl) (fun i h1 h2 N hN=>by
   have:=hs (i+1) (by simpa using h1) (by simpa using h2) N hN
   simpa using this)
  unfold kidsF
  rw[←e,this]
theorem exp_congr {step step':List Nd→Phi→Int×Int×List Nd} (h:Ok S M N) (hs:∀c:Nat,(c:Int)<S.getD l 0→∀N,Ok S M N→step N (cutP φ l c)=step' N (cutP ψ l c)∧Ok S M (step N (cutP φ l c)).2.2):expF S M step N φ l=expF S M step' N ψ l:=by
 have:kidsF step N (cuts S φ l)=kidsF step' N (cuts S ψ l):=kids_congr _ _ N h (by rw[cuts_length,cuts_length]) (fun i h1 h2 N hN=>by
  have hi:(i:Int)<S.getD l 0:=by rw[cuts_length] at h1;omega
  have:=hs i hi N hN
  simpa [cuts] using this)
 unfold expF
 rw[this]
theorem can_alike:∀(d:Nat),d≤S.length→∀(N:List Nd),Ok S M N→∀φ ψ,Hang S φ (S.length-d)→Alike S φ ψ→can S M d N φ=can S M d N ψ:=by
 intro d
 induction d with
 |zero=>
  intro _ N h φ ψ hg ha
  obtain⟨r,a⟩:=Hang.const (N:=N) h.sz hg
  rw[can_rep h a,can_rep h (a.alike ha)]
 |succ d ih=>
  intro hd N h φ ψ hg ha
  by_cases hr:∃r,Rep S N φ r
  ·obtain⟨r,a⟩:=hr
   rw[can_rep h a,can_rep h (a.alike ha)]
  ·have hr2:¬ ∃r,Rep S N ψ r:=fun⟨r,a⟩=>hr ⟨r,a.alike ha.symm⟩
   rw[can_exp hr,can_exp hr2]
   have e:S.length-(d+1)+1=S.length-d:=by omega
   refine exp_congr h (fun c hc N hN=>?_)
   have hh:Hang S (cutP φ (S.length-(d+1)) c) (S.length-d):=by rw[←e];exact hg.cut hc
   exact⟨ih (by omega) N hN _ _ hh (fun p hp=>ha _ (hp.upd hc)),(can_out d (by omega) N hN _ hh).ok⟩
theorem kids_rep {step:List Nd→Phi→Int×Int×List Nd} {G:Nat→Int}:∀(fs:List Phi) (k:Nat),(∀i (h:i<fs.length),step N fs[i]=(G (k+i),0,N))→kidsF step N fs=((List.range fs.length).map (fun i=>G (k+i)),0,N)
 |[],_,_=>rfl
 |φ::t,k,hs=>by
  have e:=hs 0 (by simp)
  simp only[List.getElem_cons_zero,Nat.add_zero] at e
  have:=kids_rep (step:=step) (G:=G) t (k+1) (fun i h=>by
   have:=hs (i+1) (by simpa using h)
   simp only[List.getElem_cons_succ] at this
   rw[this,Nat.add_assoc,Nat.add_comm 1 i])
  unfold kidsF
  rw[e]
  simp only[this,if_true]
  rw[List.length_cons,List.range_succ_eq_map,List.map_cons,List.map_map]
  congr 2
  apply List.map_congr_left
  intro i _
  show G (k+1+i)=G (k+(i+1))
  congr 1
  omega
theorem map_const_rep (n:Nat) (r:Int):(List.range n).map (fun _=>r)=List.replicate n r:=by
 induction n with
 |zero=>rfl
 |succ n ih=>rw[List.range_succ,List.map_append,ih,List.replicate_succ',List.map_singleton]
theorem kids_same (hd:d≤S.length):∀(fs:List Phi) (N:List Nd),Ok S M N→fs≠[]→Hang S φ (S.length-d)→(∀ψ∈fs,Alike S φ ψ)→kidsF (can S M d) N fs=if (can S M d N φ).2.1=0 then(List.replicate fs.length (can S M d N φ).1,0,(can S M d N φ).2.2) else([],(can S M d N φ).2.1,(can S M d N φ).2.2)
 |[],_,_,h,_,_=>absurd rfl h
 |ψ::t,N,h,_,hg,ha=>by
  have e:=can_alike d hd N h φ ψ hg (ha ψ (by simp))
  have o:=can_out d hd N h φ hg
  unfold kidsF
  rw[←e]
  generalize can S M d N φ=x at *
  rcases o.res with⟨h1,h2,h3⟩|⟨h1,h2⟩
  ·rw[if_pos h1,if_pos h1]
   have k:=kids_rep (step:=can S M d) (G:=fun _=>x.1) (N:=x.2.2) t 0 (fun i hi=>can_rep o.ok (h2.alike (ha _ (by simp))))
   rw[map_const_rep] at k
   rw[k,if_pos rfl]
   rfl
  ·rw[if_neg (by omega),if_neg (by omega)]
theorem can_skip (hd:d+1≤S.length) (h:Ok S M N) (hg:Hang S φ (S.length-d)):can S M (d+1) N φ=can S M d N φ:=by
 by_cases hr:∃r,Rep S N φ r
 ·obtain⟨r,a⟩:=hr
  rw[can_rep h a,can_rep h a]
 ·rw[can_exp hr]
  have hl:S.length-(d+1)<S.length:=by omega
  have el:S.length-(d+1)+1=S.length-d:=by omega
  have hsz:=h.sz.each _ (show S.getD (S.length-(d+1)) 0∈S by rw[List.getD_eq_getElem?_getD,List.getElem?_eq_getElem hl];exact List.getElem_mem _)
  have o:=can_out d (by omega) N h φ hg
  have hne:cuts S φ (S.length-(d+1))≠[]:=fun e=>by
   have:=cuts_length (S:=S) (φ:=φ) (l:=S.length-(d+1))
   rw[e] at this
   simp only[List.length_nil] at this
   omega
  have k:=kids_same (by omega) (cuts S φ (S.length-(d+1))) N h hne hg (fun ψ hψ=>by
   obtain⟨c,hc,rfl⟩:=cuts_mem hψ
   exact(Hang.same (by rw[el];exact hg) hc).symm)
  unfold expF
  rw[k]
  generalize can S M d N φ=x at *
  rcases o.res with⟨h1,h2,h3⟩|⟨h1,h2⟩
  ·rw[if_pos h1]
   simp only[if_true]
   rw[cuts_length]
   have hlen:0<(S.getD (S.length-(d+1)) 0).toNat:=by omega
   have hmem:∀y∈List.replicate (S.getD (S.length-(d+1)) 0).toNat x.1,y=x.1:=fun y hy=>(List.mem_replicate.1 hy).2
   have h0:(List.replicate (S.getD (S.length-(d+1)) 0).toNat x.1).getD 0 0=x.1:=by
    rw[List.getD_eq_getElem?_getD,List.getElem?_replicate,if_pos hlen]
    rfl
   have hmk:MkP S M x.2.2 ((S.length-(d+1):Nat):Int) (List.replicate (S.getD (S.length-(d+1)) 0).toNat x.1) x.1 0 x.2.2:=by
    refine .inr (.inl ⟨⟨by omega,by omega,?_,fun y hy=>?_⟩,fun y hy=>?_,h0.symm,rfl,rfl⟩)
    ·rw[List.length_replicate,Int.toNat_natCast];omega
    ·rw[hmem y hy];exact⟨h2.1,by omega⟩
    ·rw[hmem y hy,h0]
   rw[mkF_of o.ok.nod hmk,←h1]
  ·have:¬(x.2.1=0):=by omega
   simp only[this,if_false]
   rw[←h2]
noncomputable def ins (S:List Int) (M:Int) (N:List Nd) (φ:Phi):Int×Int×List Nd:=can S M S.length N φ
theorem ins_rep (h:Ok S M N) (a:Rep S N φ r):ins S M N φ=(r,0,N):=can_rep h a
theorem ins_skip (h:Ok S M N):∀l,l≤S.length→Hang S φ l→ins S M N φ=can S M (S.length-l) N φ:=by
 intro l
 induction l with
 |zero=>intro _ _;rfl
 |succ l ih=>
  intro hl hg
  rw[ih (by omega) (hg.mono (by omega)),show S.length-l=(S.length-(l+1))+1 by omega]
  exact can_skip (by omega) h (by rw[show S.length-(S.length-(l+1))=l+1 by omega];exact hg)
theorem Hang.all (h:Hang S φ l):Hang S φ 0:=h.mono (by omega)
theorem ins_out (h:Ok S M N) (hl:l≤S.length) (hg:Hang S φ l):Out S M N φ l (ins S M N φ):=by
 rw[ins_skip h l hl hg]
 have e:S.length-(S.length-l)=l:=by omega
 have:=can_out (S.length-l) (by omega) N h φ (by rw[e];exact hg)
 rwa [e] at this
theorem ins_alike (h:Ok S M N) (hg:Hang S φ 0) (ha:Alike S φ ψ):ins S M N φ=ins S M N ψ:=can_alike S.length (by omega) N h φ ψ (by rw[Nat.sub_self];exact hg) ha
theorem ins_exp (h:Ok S M N) (hl:l<S.length) (hg:Hang S φ l):ins S M N φ=expF S M (ins S M) N φ l:=by
 by_cases hr:∃r,Rep S N φ r
 ·obtain⟨r,a⟩:=hr
  rw[ins_rep h a]
  have hsz:=h.sz.each _ (show S.getD l 0∈S by rw[List.getD_eq_getElem?_getD,List.getElem?_eq_getElem hl];exact List.getElem_mem _)
  have hlr:=rep_lvl h a hg (by omega)
  have k:=kids_rep (step:=ins S M) (G:=fun c=>kidR S N l r c) (N:=N) (cuts S φ l) 0 (fun i hi=>by
   have hi':(i:Int)<S.getD l 0:=by rw[cuts_length] at hi;omega
   have e:(cuts S φ l)[i]=cutP φ l i:=by simp[cuts]
   rw[e]
   refine ins_rep h ⟨?_,fun p hp=>?_⟩
   ·rw[Nat.zero_add];exact(kidR_has h hl a.1 hlr hi').1
   ·rw[Nat.zero_add]
    show sayR N p (kidR S N l r i)=φ (upd p l i)
    rw[←a.2 _ (hp.upd hi'),kidR_say h hl a.1 (hp.upd hi'),upd_at]
    have kh:=kidR_has (c:=i) h hl a.1 hlr hi'
    exact(say_hang h _ _ (Nat.le_refl _) kh.1 (l+1) (by omega) _ _ (hp.upd hi') hp (fun j h1 _=>upd_ne p i (by omega))).symm)
  unfold expF
  rw[k]
  simp only[if_true,Nat.zero_add]
  rw[cuts_length]
  have hpos:0<(S.getD l 0).toNat:=by omega
  have hmk:MkP S M N (l:Int) ((List.range (S.getD l 0).toNat).map fun i=>kidR S N l r i) r 0 N:=by
   have hmay:May S N (l:Int) ((List.range (S.getD l 0).toNat).map fun i=>kidR S N l r i):=by
    refine⟨by omega,by omega,?_,fun y hy=>?_⟩
    ·rw[List.length_map,List.length_range,Int.toNat_natCast];omega
    ·obtain⟨c,hc,rfl⟩:=List.mem_map.1 hy
     have hc':=List.mem_range.1 hc
     exact kidR_has h hl a.1 hlr (by omega)
   by_cases e:lvl S N r=(l:Int)
   ·obtain⟨h2,ks,hn⟩:=h.node_of_lvl a.1 e hl
    have eks:((List.range (S.getD l 0).toNat).map fun i=>kidR S N l r i)=ks:=by
     apply List.ext_getElem
     ·rw[List.length_map,List.length_range,←hn.len,Int.toNat_natCast]
     ·intro i h1 h3
      rw[List.getElem_map,List.getElem_range,kidR_node hn,List.getD_eq_getElem?_getD,List.getElem?_eq_getElem h3]
      rfl
    rw[eks] at hmay ⊢
    exact .inr (.inr (.inl ⟨hmay,hn.one,⟨(r-2).toNat,hn.at_,by omega⟩,rfl,rfl⟩))
   ·have hall:∀y∈(List.range (S.getD l 0).toNat).map (fun i=>kidR S N l r i),y=r:=fun y hy=>by
     obtain⟨c,_,rfl⟩:=List.mem_map.1 hy
     exact kidR_self e
    have h0:((List.range (S.getD l 0).toNat).map (fun i=>kidR S N l r i)).getD 0 0=r:=by
     have hlt:0<((List.range (S.getD l 0).toNat).map (fun i=>kidR S N l r i)).length:=by rw[List.length_map,List.length_range];exact hpos
     rw[List.getD_eq_getElem?_getD,List.getElem?_eq_getElem hlt]
     exact hall _ (List.getElem_mem _)
    exact .inr (.inl ⟨hmay,fun y hy=>by rw[hall y hy,h0],h0.symm,rfl,rfl⟩)
  rw[mkF_of h.nod hmk]
 ·rw[ins_skip h l (by omega) hg,show S.length-l=(S.length-(l+1))+1 by omega,can_exp hr,show S.length-(S.length-(l+1)+1)=l by omega]
  refine exp_congr h (fun c hc N hN=>?_)
  have hh:=hg.cut hc
  refine⟨(ins_skip hN (l+1) (by omega) hh).symm,?_⟩
  have e:S.length-(S.length-(l+1))=l+1:=by omega
  exact(can_out (S.length-(l+1)) (by omega) N hN _ (by rw[e];exact hh)).ok
theorem kids_snoc {step:List Nd→Phi→Int×Int×List Nd}:∀(t:List Phi) (N:List Nd) (ks:List Int) (N1:List Nd),kidsF step N t=(ks,0,N1)→∀φ,kidsF step N (t++[φ])=if (step N1 φ).2.1=0 then(ks++[(step N1 φ).1],0,(step N1 φ).2.2) else([],(step N1 φ).2.1,(step N1 φ).2.2)
 |[],N,ks,N1,h,φ=>by
  simp only[kidsF,Prod.mk.injEq] at h
  obtain⟨rfl,_,rfl⟩:=h
  simp only[List.nil_append,kidsF,if_true]
 |ψ::t,N,ks,N1,h,φ=>by
  unfold kidsF at h
  rw[List.cons_append]
  unfold kidsF
  by_cases h1:(step N ψ).2.1=0
  ·rw[if_pos h1] at h ⊢
   by_cases h2:(kidsF step (step N ψ).2.2 t).2.1=0
   ·rw[if_pos h2] at h
    simp only[Prod.mk.injEq] at h
    obtain⟨rfl,_,rfl⟩:=h
    have:=kids_snoc t (step N ψ).2.2 (kidsF step (step N ψ).2.2 t).1 (kidsF step (step N ψ).2.2 t).2.2 (by rw[←h2]) φ
    rw[this]
    by_cases h3:(step (kidsF step (step N ψ).2.2 t).2.2 φ).2.1=0
    ·rw[if_pos h3,if_pos rfl];simp only[h3,if_true,List.cons_append]
    ·rw[if_neg h3];simp only[h3,if_false]
   ·rw[if_neg h2] at h
    simp only[Prod.mk.injEq] at h
    exact absurd h.2.1 h2
  ·rw[if_neg h1] at h
   simp only[Prod.mk.injEq] at h
   exact absurd h.2.1 h1
theorem kids_nil {step:List Nd→Phi→Int×Int×List Nd}:∀(t:List Phi) (N:List Nd),¬(kidsF step N t).2.1=0→(kidsF step N t).1=[]
 |[],_,_=>rfl
 |ψ::t,N,h=>by
  unfold kidsF at h ⊢
  by_cases h1:(step N ψ).2.1=0
  ·rw[if_pos h1] at h ⊢
   by_cases h2:(kidsF step (step N ψ).2.2 t).2.1=0
   ·rw[if_pos h2] at h;exact absurd rfl h
   ·rw[if_neg h2]
  ·rw[if_neg h1]
theorem kids_stop {step:List Nd→Phi→Int×Int×List Nd}:∀(t:List Phi) (N:List Nd) (e:Int) (N1:List Nd),e≠0→kidsF step N t=([],e,N1)→∀u,kidsF step N (t++u)=([],e,N1)
 |[],N,e,N1,he,h,u=>by
  simp only[kidsF,Prod.mk.injEq] at h
  exact absurd h.2.1.symm he
 |ψ::t,N,e,N1,he,h,u=>by
  unfold kidsF at h
  rw[List.cons_append]
  unfold kidsF
  by_cases h1:(step N ψ).2.1=0
  ·rw[if_pos h1] at h ⊢
   by_cases h2:(kidsF step (step N ψ).2.2 t).2.1=0
   ·rw[if_pos h2] at h
    simp only[Prod.mk.injEq] at h
    exact absurd h.2.1.symm he
   ·rw[if_neg h2] at h
    simp only[Prod.mk.injEq,true_and] at h
    obtain⟨rfl,rfl⟩:=h
    have h4:kidsF step (step N ψ).2.2 t=([],(kidsF step (step N ψ).2.2 t).2.1,(kidsF step (step N ψ).2.2 t).2.2):=Prod.ext (kids_nil t _ h2) rfl
    have:=kids_stop t (step N ψ).2.2 _ _ he h4 u
    rw[this]
    rw[if_neg h2]
  ·rw[if_neg h1] at h ⊢
   exact h
end
end Go.Proofs.Ytnddhkhmbjeefaa

