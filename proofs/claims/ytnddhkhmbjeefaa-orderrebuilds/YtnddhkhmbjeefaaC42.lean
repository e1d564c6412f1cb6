/-
  What is left of a diagram where a level's class is known: the document's known by its contract. Conditions: as the store's.
-/
import Derived.Test.YtnddhkhmbjeefaaC41
import Derived.Test.YtnddhkhmbjeefaaC19
import Derived.Deep.DeepCutAuto
import Derived.Deep.CutBlock
namespace Go.Proofs.Ytnddhkhmbjeefaa
open Go.RowKit Go.Lib Go.Maps
def tr:Nat→Nat
 |0=>0
 |n+1=>4*tr n+1
abbrev RepC (S:List Int) (D:List Nd) (l c:Nat) (f g:Int):Prop:=Rep S D (cutP (fun p=>sayR D p f) l c) g
section
variable {S:List Int} {D T D':List Nd} {l c l0:Nat} {f g:Int} {ks gs:List Int}
theorem RepC.app (h:Ok S MB D) (hc:(c:Int)<S.getD l 0) (hf:hasR D f) (a:RepC S D l c f g):RepC S (D++T) l c f g:=(Rep.app h a).alike (fun _ hp=>(sayR_app h (hp.upd hc) hf).symm)
theorem rc_low (hf:hasR D f) (h2:¬2≤f):RepC S D l c f f:=⟨hf,fun p _=>by
 show sayR D p f=sayR D (upd p l c) f
 rw[sayR_low h2,sayR_low h2]⟩
theorem rc_above (h:Ok S MB D) (hc:(c:Int)<S.getD l 0) (hf:hasR D f) (hl:(l:Int)<lvl S D f):RepC S D l c f f:=⟨hf,fun _ hp=>(sayR_upd h hp hc _ _ (Nat.le_refl _) hf.1 hf.2 hl).symm⟩
theorem rc_at (h:Ok S MB D) (h2:2≤f) (hf:hasR D f) (hn:NdAt S D f l ks) (hc:c<ks.length):RepC S D l c f (ks.getD c 0):=by
 obtain⟨k0,k1,_⟩:=hn.kid c hc
 exact⟨⟨k0,by have:=hf.2;omega⟩,fun _ hp=>hn.kid_says h hp h2 hf.2 hc⟩
theorem Hang.cutHang {φ:Phi} {k:Nat} (a:Hang S φ k) (hc:(c:Int)<S.getD l 0):Hang S (cutP φ l c) k:=fun p p' hp hp' hj=>a _ _ (hp.upd hc) (hp'.upd hc) (fun j h1 h2=>by
 by_cases e:j=l
 ·subst e;rw[upd_at,upd_at]
 ·rw[upd_ne _ _ e,upd_ne _ _ e];exact hj j h1 h2)
theorem rc_lvl (h:Ok S MB D) (hc:(c:Int)<S.getD l 0) (hf:hasR D f) (a:RepC S D l c f g) {k:Nat} (hk:(k:Int)≤lvl S D f):(k:Int)≤lvl S D g:=
 rep_lvl h a ((say_hang h _ _ (Nat.le_refl _) hf k hk).cutHang hc) (by have:=(h.lvl_le hf).2;omega)
theorem rc_may (h:Ok S MB D) (hc:(c:Int)<S.getD l 0) (hf:hasR D f) (hn:NdAt S D f l0 ks) (hl:gs.length=ks.length) (hg:∀j,j<gs.length→RepC S D l c (ks.getD j 0) (gs.getD j 0)):May S D (l0:Int) gs:=by
 refine⟨by omega,by have:=hn.lt;omega,by rw[hl,Int.toNat_natCast];exact hn.len,fun x hx=>?_⟩
 obtain⟨j,hj,rfl⟩:=List.getElem_of_mem hx
 have r:=hg j hj
 rw[List.getD_eq_getElem?_getD (l:=gs),List.getElem?_eq_getElem hj] at r
 replace r:RepC S D l c (ks.getD j 0) gs[j]:=r
 obtain⟨k0,k1,k2⟩:=hn.kid j (by omega)
 have:=rc_lvl h hc ⟨k0,by have:=hf.2;omega⟩ r (k:=l0+1) (by omega)
 exact⟨r.1,by omega⟩
theorem rc_make (h:Ok S MB D) (hc:(c:Int)<S.getD l 0) (h2:2≤f) (hf:hasR D f) (hn:NdAt S D f l0 ks) (hl:gs.length=ks.length) (hg:∀j,j<gs.length→RepC S D l c (ks.getD j 0) (gs.getD j 0)) (hne:l0≠l) (mk:MkP S MB D (l0:Int) gs g 0 D'):RepC S D' l c f g:=by
 refine⟨(MkP.says h (Pnt.zero h.sz) mk).1,fun p hp=>?_⟩
 obtain⟨_,e,old⟩:=MkP.says h hp mk
 have hpc:p l0<gs.length:=by rw[hl];exact hn.cls hp
 rw[e,Int.toNat_natCast,(hg _ hpc).2 p hp]
 show sayR D (upd p l c) (ks.getD (p l0) 0)=sayR D' (upd p l c) f
 rw[((MkP.says h (hp.upd hc) mk).2.2 f hf).2,hn.says h (hp.upd hc) h2 hf.2,upd_ne p c hne]
theorem mk_app {ks:List Int} (mk:MkP S MB D (l0:Int) ks g 0 D'):∃T,D'=D++T∧T.length≤1:=by
 rcases mk with⟨_,_,h,_⟩|⟨_,_,_,_,h⟩|⟨_,_,_,_,h⟩|⟨_,_,_,_,_,h,_⟩|⟨_,_,_,_,_,_,h⟩
 ·omega
 ·exact⟨[],by rw[h];simp,by simp⟩
 ·exact⟨[],by rw[h];simp,by simp⟩
 ·omega
 ·exact⟨_,h,by simp⟩
theorem NdAt.app (hE:Ok S MB (D++T)) (h2:2≤f) (hf:hasR D f) (hn:NdAt S D f l0 ks):NdAt S (D++T) f l0 ks:=by
 obtain⟨l',ks',hn'⟩:=hE.ndAt h2 (by have:=hf.2;rw[List.length_append];omega)
 have e:=hn'.at_
 rw[List.getElem?_append_left (by have:=hf.2;omega),hn.at_] at e
 cases e
 exact hn'
end
def DoneOk (S:List Int) (D:List Nd) (l c:Nat) (Ld:List Int):Prop:=Ld.length≤D.length+2∧∀f:Nat,f<Ld.length→0≤Ld.getD f 0→RepC S D l c (f:Int) (Ld.getD f 0)
theorem DoneOk.app {S:List Int} {D T:List Nd} {l c:Nat} {Ld:List Int} (h:Ok S MB D) (hc:(c:Int)<S.getD l 0) (d:DoneOk S D l c Ld):DoneOk S (D++T) l c Ld:=
 ⟨by have:=d.1;rw[List.length_append];omega,fun f hf h0=>(d.2 f hf h0).app h hc ⟨by omega,by have:=d.1;omega⟩⟩
theorem DoneOk.set {S:List Int} {D:List Nd} {l c f:Nat} {g:Int} {Ld:List Int} (d:DoneOk S D l c Ld) (hg:RepC S D l c (f:Int) g):DoneOk S D l c (Ld.set f g):=
 ⟨by rw[List.length_set];exact d.1,fun f' hf h0=>by
   rw[List.length_set] at hf
   by_cases e:f=f'
   ·subst e
    rw[getD_here hf]
    exact hg
   ·rw[getD_else e] at h0 ⊢
    exact d.2 f' hf h0⟩
theorem St.look {w:World} {s:Nat} {S:List Int} {D:List Nd} {P M:Nat→Prop} (h:St w s S D P M):∃ng nc,(∀W,Below w.heap.size w W→W.cell? ⟨s,0,none⟩=some (.slice (some ⟨ng,0,none⟩) (D.length+2) nc))∧∀f lv ks,2≤f→D[f-2]? =some (lv,ks)→∃kb kc,P kb∧¬M kb∧∀W,Below w.heap.size w W→W.cell? ⟨ng,f*2,none⟩=some (.int .i64 lv)∧W.cell? ⟨ng,f*2+1,none⟩=some (.slice (some ⟨kb,0,none⟩) ks.length kc)∧ZBk W kb ks:=by
 obtain⟨R,nv,V,L,hx,hD,ok,hask,hhash⟩:=h
 have hRD:R.length=D.length:=by rw[←hD,List.length_map]
 obtain⟨⟨ng,nc,rfl⟩,_⟩:=hx.shape (fun j h1 h3=>by
  rcases (show j=1∨j=2∨j=3 by omega) with rfl|rfl|rfl
  ·rw[hask.al];omega
  ·rw[hhash.hl];omega
  ·rw[hhash.xl];omega)
 refine⟨ng,nc,fun W hW=>by rw[←hRD];exact(hx.below hW).cells.1,fun f lv ks h2 hf=>?_⟩
 have hlt:f-2<R.length:=by rw[hRD];exact at_lt hf
 rw[←hD,List.getElem?_map,List.getElem?_eq_getElem hlt] at hf
 obtain⟨y,hy⟩:∃y,R[f-2]=y:=⟨_,rfl⟩
 rw[hy] at hf
 have e:(y.lv,y.ks)=(lv,ks):=Option.some.inj hf
 obtain⟨rfl,rfl⟩:=Prod.mk.inj e
 have hm:y∈R:=by rw[←hy];exact List.getElem_mem hlt
 refine⟨y.kb,y.kc,hx.pk y hm,hx.nk y hm,fun W hW=>?_⟩
 have h0:=hx.below hW
 obtain⟨a,b⟩:=h0.node hlt
 rw[hy,show f-2+2=f by omega] at a b
 exact⟨a,b,h0.kid y hm⟩
def KnL (S:List Int) (l c s d:Nat) (f:Int) (N:Nat) (D:List Nd) (P M:Nat→Prop) (n:Nat) (w:World) (e:Ending) (w':World):Prop:=∃g T P' M' Ld',e=.returned (.int .i64 g)∧St w' s S (D++T) P' M'∧RwZ w' d Ld'∧Ld'.length=N∧DoneOk S (D++T) l c Ld'∧RepC S (D++T) l c f g∧Kept (fun k=>M k∨k=d) w w'∧(∀k,P' k→P k∨w.heap.size≤k)∧(∀k,M' k→M k∨w.heap.size≤k)∧T.length≤tr n
def KnC (S:List Int) (l c s d n:Nat):Prop:=∀(w:World) (D:List Nd) (P M:Nat→Prop) (Ld:List Int) (f:Nat),St w s S D P M→RwZ w d Ld→¬P d→DoneOk S D l c Ld→f<Ld.length→S.length≤(lvl S D (f:Int)).toNat+n→D.length+tr n≤1649267441664→
 Calls Try.prog 94 #[.pointer (some ⟨s,0,none⟩),.int .i64 (f:Int),.int .i64 (l:Int),.int .i64 (c:Int),.slice (some ⟨d,0,none⟩) Ld.length Ld.length] w fun e w'=>KnL S l c s d (f:Int) Ld.length D P M n w e w'
structure KnI (S:List Int) (l c s d:Nat) (N:Nat) (D:List Nd) (P M:Nat→Prop) (n:Nat) (ks:List Int) (w1 wr:World) (v:Value) (gs:List Int) (T:List Nd) (P' M':Nat→Prop) (Ld':List Int):Prop where
 st:St wr s S (D++T) P' M'
 dn:RwZ wr d Ld'
 dl:Ld'.length=N
 dok:DoneOk S (D++T) l c Ld'
 row:wr.ownsRow w1.heap.size 3 1 v gs.length (zC gs)
 np:∀k,v.ownBlock=some k→¬P' k
 kp:Kept (fun k=>M k∨k=d) w1 wr
 pp:∀k,P' k→P k∨w1.heap.size≤k
 mm:∀k,M' k→M k∨w1.heap.size≤k
 few:T.length≤gs.length*tr n
 rep:∀j,j<gs.length→RepC S (D++T) l c (ks.getD j 0) (gs.getD j 0)
section
variable {S:List Int} {l c s d N n:Nat} {D T:List Nd} {P M P' M':Nat→Prop} {ks gs Ld':List Int} {w w1 wr w2 w4:World} {v:Value} {e:Ending}
theorem KnI.push (h:KnI S l c s d N D P M n ks w1 wr v gs T P' M' Ld') (hc:(c:Int)<S.getD l 0) (hd:d<w1.heap.size) (hk:∀j,j<ks.length→hasR D (ks.getD j 0)) (hg:gs.length<ks.length) (hx:KnL S l c s d (ks.getD gs.length 0) N (D++T) P' M' n wr e w2):
 ∃g,e=.returned (.int .i64 g)∧w2.ownsRow w1.heap.size 3 1 v gs.length (zC gs)∧w1.heap.size≤w2.heap.size∧(Below w2.heap.size w2 (w2.alloc (.cells #[.int .i64 g] 3))→∀(g4 cap:Nat) (w4:World),w4.ownsRow w1.heap.size 3 1 (.slice (some ⟨g4,0,none⟩) (gs.length+1) cap) (gs.length+1) (zC gs++[.int .i64 g])→(w2.alloc (.cells #[.int .i64 g] 3)).grownBy w4 v.ownBlock→(v.ownBlock=some g4∨g4=(w2.alloc (.cells #[.int .i64 g] 3)).heap.size)→
  ∃T2 P2 M2 L2,KnI S l c s d N D P M n ks w1 w4 (.slice (some ⟨g4,0,none⟩) (gs++[g]).length cap) (gs++[g]) T2 P2 M2 L2):=by
 obtain⟨g,T1,P1,M1,L1,rfl,st,dn,dl,dok,rep,kp,pp,mm,few⟩:=hx
 have hrow:w2.ownsRow w1.heap.size 3 1 v gs.length (zC gs):=own_kept h.row kp (fun k hk hF=>by
  rcases hF with hF|hF
  ·exact h.np k hk (h.st.mp hF)
  ·have:=World.ownsRow.lt h.row k hk
   omega)
 have hz:w1.heap.size≤w2.heap.size:=Nat.le_trans h.kp.size kp.size
 refine⟨g,rfl,hrow,hz,fun x g4 cap w4 o4 gr h4=>⟨T++T1,P1,M1,L1,?_⟩⟩
 have hvP1:∀k,v.ownBlock=some k→¬P1 k:=fun k hk hp=>by
  rcases pp k hp with hp|hp
  ·exact h.np k hk hp
  ·have:=World.ownsRow.lt h.row k hk
   omega
 have hkg:Kept (fun k=>v.ownBlock=some k) w2 w4:=(Kept.of_below x).trans_new (kept_of_grown gr) (fun _ _ h=>h)
 have hok:=h.st.ok
 have hvw:∀k,v.ownBlock=some k→w1.heap.size≤k:=fun k hk=>(World.ownsRow.lt h.row k hk).1
 have eA:D++(T++T1)=(D++T)++T1:=(List.append_assoc _ _ _).symm
 refine⟨by rw[eA];exact st.kept hkg (fun k hp hF=>hvP1 k hF hp),dn.kept hkg (fun hF=>by have:=hvw d hF;omega),dl,by rw[eA];exact dok,?_,fun k hk=>?_,?_,fun k hp=>?_,fun k hm=>?_,?_,fun j hj=>?_⟩
 ·rw[show(gs++[g]).length=gs.length+1 by simp,show zC (gs++[g])=zC gs++[.int .i64 g] by simp[zC]]
  exact o4
 ·have e4:g4=k:=Option.some.inj hk
  rcases h4 with h4|h4
  ·exact hvP1 k (by rw[←e4];exact h4)
  ·intro hp
   have h5:=st.plt hp
   have h6:=x.size
   omega
 ·refine(h.kp.trans_new kp (fun k hk hF=>?_)).trans_new hkg (fun k hk hF=>by have:=hvw k hF;omega)
  rcases hF with hF|hF
  ·rcases h.mm k hF with h1|h1
   ·exact .inl h1
   ·omega
  ·exact .inr hF
 ·rcases pp k hp with hp|hp
  ·exact h.pp k hp
  ·exact .inr (Nat.le_trans h.kp.size hp)
 ·rcases mm k hm with hm|hm
  ·exact h.mm k hm
  ·exact .inr (Nat.le_trans h.kp.size hm)
 ·rw[List.length_append,List.length_append,List.length_singleton,Nat.add_mul,Nat.one_mul]
  have:=h.few
  omega
 ·rcases Nat.lt_or_ge j gs.length with h1|h1
  ·rw[getD_left h1,eA]
   exact(h.rep j h1).app hok hc (hasR_app (hk j (by omega)))
  ·have ej:j=gs.length:=by rw[List.length_append,List.length_singleton] at hj;omega
   subst ej
   rw[getD_snoc rfl,eA]
   exact rep
end
section
variable {S:List Int} {l c s d:Nat}
set_option maxRecDepth 100000 in
set_option maxHeartbeats 8000000 in
theorem known_any (hl:l<S.length) (hc:(c:Int)<S.getD l 0) (h4:∀x∈S,x≤4):∀n,KnC S l c s d n:=by
 obtain⟨i3,hi3,hz30,hz31,hz32⟩:=info_parts Try.info3
 intro n
 induction n with
 |zero=>
  intro w D P M Ld f h hz hp hdk hf hlv hsz
  have hok:=h.ok
  have hfD:f<D.length+2:=by have:=hdk.1;omega
  have h2:¬(2:Int)≤(f:Int):=fun h2=>by
   obtain⟨l',ks,hn⟩:=hok.ndAt h2 (by omega)
   have:=hn.lev
   have:=hn.lt
   omega
  have h2':(f:Int)<2:=by omega
  have FIN:Hid (∀e,e=Ending.returned (.int .i64 (f:Int))→KnL S l c s d (f:Int) Ld.length D P M 0 w e w):=fun e he=>⟨(f:Int),[],P,M,Ld,he,by rw[List.append_nil];exact h,hz,rfl,by rw[List.append_nil];exact hdk,by rw[List.append_nil];exact rc_low ⟨by omega,by omega⟩ h2,Kept.refl _ _,fun k hk=>.inl hk,fun k hk=>.inl hk,Nat.zero_le _⟩
  clear h hz hp hdk hlv hok
  go_enter Try.func94,Try.ntmps94
  go_wp2
  go_ret
  exact FIN.out _ rfl
 |succ n ih=>
  intro w D P M Ld f h hz hp hdk hf hlv hsz
  have hok:=h.ok
  have hfD:f<D.length+2:=by have:=hdk.1;omega
  have STAY:Hid (∀(w':World) (g:Int) e,Below w.heap.size w w'→RepC S D l c (f:Int) g→e=Ending.returned (.int .i64 g)→KnL S l c s d (f:Int) Ld.length D P M (n+1) w e w'):=fun w' g e y hr he=>⟨g,[],P,M,Ld,he,by rw[List.append_nil];exact h.below y,hz.below y,rfl,by rw[List.append_nil];exact hdk,by rw[List.append_nil];exact hr,Kept.of_below y,fun k hk=>.inl hk,fun k hk=>.inl hk,Nat.zero_le _⟩
  by_cases h2:2≤f
  rotate_left
  ·have h2':(f:Int)<2:=by omega
   have FIN:=hide (STAY.out w (f:Int) (Ending.returned (.int .i64 (f:Int))) (Below.refl _ _) (rc_low ⟨by omega,by omega⟩ (by omega)) rfl)
   clear h hz hp hdk hlv hok STAY ih
   go_enter Try.func94,Try.ntmps94
   go_wp2
   go_ret
   exact FIN.out
  obtain⟨lf,ks,hn⟩:=hok.ndAt (f:=(f:Int)) (by omega) (by omega)
  have hat:D[f-2]? =some ((lf:Int),ks):=by
   have:=hn.at_
   rwa [show((f:Int)-2).toNat=f-2 by omega] at this
  obtain⟨ng,nc,NC,LK⟩:=h.look
  obtain⟨kb,kc,hkP,hkM,KC⟩:=LK f _ _ h2 hat
  have HNC:=hide NC
  have HKC:=hide KC
  have HN:=hide hn
  have h2':¬(f:Int)<2:=by omega
  have hfi:(f:Int)<((D.length+2:Nat):Int):=by omega
  have hfi2:(f:Int)<(D.length:Int)+2:=by omega
  have HFR:Hid (hasR D (f:Int)):=⟨by omega,by omega⟩
  obtain⟨s0⟩:w.cell? ⟨s,0,none⟩=some (.slice (some ⟨ng,0,none⟩) (D.length+2) nc)∧True:=⟨NC w (Below.refl _ _),trivial⟩
  obtain⟨n0,n1,zk⟩:=KC w (Below.refl _ _)
  have HZK:=hide zk
  clear NC KC LK hat zk
  by_cases hab:l<lf
  ·have hab':(l:Int)<(lf:Int):=by omega
   have FIN:=hide (STAY.out w (f:Int) (Ending.returned (.int .i64 (f:Int))) (Below.refl _ _) (rc_above hok hc HFR.out (by rw[hn.lev];exact hab')) rfl)
   clear h hz hp hdk hlv hok STAY ih hn n1
   go_enter Try.func94,Try.ntmps94
   go_wp2
   go_ret
   exact FIN.out
  have hab':¬(l:Int)<(lf:Int):=by omega
  by_cases hat2:lf=l
  ·subst hat2
   have hck:c<ks.length:=by have:=hn.len;omega
   have q1:=HZK.out.cell hck
   obtain⟨g,hg⟩:∃g,ks.getD c 0=g:=⟨_,rfl⟩
   rw[hg] at q1
   have FIN:=hide (STAY.out w g (Ending.returned (.int .i64 g)) (Below.refl _ _) (by rw[←hg];exact rc_at hok (by omega) HFR.out hn hck) rfl)
   have hck':(c:Int)<(ks.length:Int):=by omega
   clear h hz hp hdk hlv hok STAY ih hn hg hc
   go_enter Try.func94,Try.ntmps94
   go_wp2
   go_ret
   exact FIN.out
  have hat2':¬(lf:Int)=(l:Int):=by omega
  have hbe:((lf:Int)==(l:Int))=false:=beq_eq_false_iff_ne.2 hat2'
  have hf':(f:Int)<(Ld.length:Int):=by omega
  have z1:=hz.cell hf
  obtain⟨v0,hv0⟩:∃v0,Ld.getD f 0=v0:=⟨_,rfl⟩
  rw[hv0] at z1
  by_cases hge:0≤v0
  ·have FIN:=hide (STAY.out w v0 (Ending.returned (.int .i64 v0)) (Below.refl _ _) (by rw[←hv0];exact hdk.2 f hf (by rw[hv0];exact hge)) rfl)
   clear h hz hp hdk hlv hok STAY ih hn hv0 n1
   go_enter Try.func94,Try.ntmps94
   go_wp2
   go_ret
   exact FIN.out
  have H:=hide h
  have HZ:=hide hz
  have HP:=hide hp
  have HDK:=hide hdk
  have HOK:=hide hok
  have hksl:ks.length≤4:=by
   have h1:=hn.len
   have h2:=h4 (S.getD lf 0) (by rw[List.getD_eq_getElem?_getD,List.getElem?_eq_getElem hn.lt];exact List.getElem_mem _)
   omega
  have hk0:0<ks.length:=hn.pos hok
  have HKH:Hid (∀j,j<ks.length→hasR D (ks.getD j 0)∧(lf:Int)<lvl S D (ks.getD j 0)):=fun j hj=>by
   obtain⟨k0,k1,k2⟩:=hn.kid j hj
   exact⟨⟨k0,by omega⟩,k2⟩
  have hlvf:S.length≤lf+(n+1):=by
   have:=hn.lev
   rw[this,Int.toNat_natCast] at hlv
   exact hlv
  have hdlt:=hz.lt
  have HSZ:=hide hsz
  clear h hz hp hdk hlv hok STAY hv0 hn hsz
  go_enter Try.func94,Try.ntmps94
  go_upto_block 0 with fail
  clear z1 s0 n0 n1 hbe
  have Y1:Hid (Below w.heap.size w (w.alloc (.cells #[.int .i64 (lf:Int),.slice (some ⟨kb,0,none⟩) ks.length kc] 86))):=al (Below.refl _ _) _
  have NB:=hide (heap_alloc_new w (.cells #[.int .i64 (lf:Int),.slice (some ⟨kb,0,none⟩) ks.length kc] 86))
  have HNB:Hid (w.heap.size<(w.alloc (.cells #[.int .i64 (lf:Int),.slice (some ⟨kb,0,none⟩) ks.length kc] 86)).heap.size):=by unfold Hid;simp
  generalize w.alloc (.cells #[.int .i64 (lf:Int),.slice (some ⟨kb,0,none⟩) ks.length kc] 86)=w1 at *
  obtain⟨nb,hnb⟩:∃nb,w.heap.size=nb:=⟨_,rfl⟩
  have HNE:=hide hnb
  rw[hnb] at NB HNB hdlt ⊢
  clear hnb
  have hd1:d<w1.heap.size:=by have:=HNB.out;omega
  have HKT:Hid (∀j,j<ks.length→hasR D (ks.getD j 0)):=fun j hj=>(HKH.out j hj).1
  have NBC:Hid (∀W,Kept (fun k=>M k∨k=d) w1 W→W.cell? ⟨nb,0,none⟩=some (.int .i64 (lf:Int))∧W.cell? ⟨nb,1,none⟩=some (.slice (some ⟨kb,0,none⟩) ks.length kc)∧ZBk W kb ks):=fun W hW=>by
   have b:=(hW.block nb HNB.out (fun hF=>by
    rcases hF with hF|hF
    ·have:=H.out.plt (H.out.mp hF)
     have:=HNE.out
     omega
    ·omega)).trans NB.out
   refine⟨by rw[cell_of_row W _ _ _ _ _ b];rfl,by rw[cell_of_row W _ _ _ _ _ b];rfl,(HZK.out.below Y1.out).kept hW (fun hF=>?_)⟩
   rcases hF with hF|hF
   ·exact hkM hF
   ·exact HP.out (by rw[←hF];exact hkP)
  have I0:Hid (KnI S l c s d Ld.length D P M n ks w1 w1 (.slice none 0 0) [] [] P M Ld):=⟨by rw[List.append_nil];exact H.out.below Y1.out,HZ.out.below Y1.out,rfl,by rw[List.append_nil];exact HDK.out,World.ownsRow_nil _ _ _ _,fun k hk=>(by cases hk),Kept.refl _ _,fun k hk=>.inl hk,fun k hk=>.inl hk,Nat.zero_le _,fun j hj=>(by cases hj)⟩
  go_cut [11] (fun v11 wx=>∃gs ka kc2 T2 P2 M2 L2,v11=.slice ka (List.length gs) kc2∧gs.length=ks.length∧Hid (KnI S l c s d Ld.length D P M n ks w1 wx (.slice ka gs.length kc2) gs T2 P2 M2 L2))
  case first=>
   go_wp2
   go_loopw [11,13] (fun v11 v13 wr=>∃(gs:List Int) (ka:Option Addr) (kc2:Nat) (T2:List Nd) (P2 M2:Nat→Prop) (L2:List Int),v11=.slice ka gs.length kc2∧v13=.int .i64 (gs.length:Int)∧gs.length≤ks.length∧Hid (KnI S l c s d Ld.length D P M n ks w1 wr (.slice ka gs.length kc2) gs T2 P2 M2 L2)) (fun _ v _=>ks.length-(RowKit.intOf v).toNat)
   case atStart=>exact⟨[],none,0,[],P,M,Ld,rfl,rfl,Nat.zero_le _,I0⟩
   case round=>
    obtain⟨gs,ka,kc2,T2,P2,M2,L2,rfl,rfl,hgk,KI⟩:=hrel
    clear I0
    obtain⟨m0,m1,zk⟩:=NBC.out wr KI.out.kp
    by_cases hlt:gs.length<ks.length
    ·have hlt':(gs.length:Int)<(ks.length:Int):=by omega
     have q1:=zk.cell hlt
     obtain⟨fj,hfj⟩:∃fj:Nat,ks.getD gs.length 0=(fj:Int):=⟨(ks.getD gs.length 0).toNat,by have:=(HKH.out _ hlt).1.1;omega⟩
     have hkj:=HKH.out _ hlt
     have hlow:=(HN.out.kid _ hlt).2.1
     rw[hfj] at q1 hkj hlow
     have hdl:=KI.out.dl
     have CALL:Hid (Calls Try.prog 94 #[.pointer (some ⟨s,0,none⟩),.int .i64 (fj:Int),.int .i64 (l:Int),.int .i64 (c:Int),.slice (some ⟨d,0,none⟩) Ld.length Ld.length] wr fun e w'=>KnL S l c s d (ks.getD gs.length 0) Ld.length (D++T2) P2 M2 n wr e w'):=by
      have:=ih wr (D++T2) P2 M2 L2 fj KI.out.st KI.out.dn (fun hp=>by
       rcases KI.out.pp d hp with hp|hp
       ·exact HP.out hp
       ·omega) KI.out.dok (by omega) (by rw[lvl_app hkj.1];have:=hkj.2;omega) (by
       have h1:=KI.out.few
       have h2:gs.length*tr n≤3*tr n:=Nat.mul_le_mul_right _ (by omega)
       have h3:D.length+tr (n+1)≤1649267441664:=HSZ.out
       have h4:tr (n+1)=4*tr n+1:=rfl
       rw[List.length_append]
       omega)
      rw[hdl] at this
      rw[hfj]
      exact this
     have HFJ:=hide hfj
     clear hfj hkj hlow hdl m0 zk
     go_upto_region 11 with(first
      |(go_at_call 94;refine CALL.out.mono ?_;rintro e w2 hx;obtain⟨g,rfl,hrow,hz2,hpush⟩:=KI.out.push hc hd1 HKT.out hlt hx;have YY:Hid (Below w2.heap.size w2 (w2.alloc (.cells #[.int .i64 g] 3))):=(al (Below.refl _ _) _);have ROW:=hide (own_below hrow YY.out);have HPU:=hide (hpush YY.out);have SZ2:Hid (w1.heap.size≤(w2.alloc (.cells #[.int .i64 g] 3)).heap.size):=Nat.le_trans hz2 YY.out.size;clear hx hrow hz2 hpush)
      |(at_builtin;refine wpList_append_lies _ rfl (.tmp 73) (.tmp 84) 22 rfl w1.heap.size 3 i3 (.int .i64 0) 1 8 Try.underlying22 hi3 hz30 hz31 hz32 rfl (by decide) _ gs.length (zC gs) rfl ROW.out ⟨w2.heap.size,0,none⟩ 1 1 [.int .i64 g] rfl rfl (one_new w2 _ _) (by simp[Value.oneCell']) (by decide) (by unfold maxLen;omega) (by omega) SZ2.out _ rfl ?_;intro g8 cap8 w8 h1 h2 h3 h4;obtain⟨T3,P3,M3,L3,hk3⟩:=HPU.out g8 cap8 w8 h1 h2 h3;have KI3:=hide hk3;clear h1 h2 h3 h4 hk3))
     have hl3:(gs++[g]).length=gs.length+1:=by simp
     have HL3:=hide hl3
     clear CALL ROW HPU SZ2 YY KI hl3
     go_wp2
     go_roundw
     case rel=>exact⟨gs++[g],_,_,T3,P3,M3,L3,by rw[HL3.out],by rw[HL3.out];go_num,by rw[HL3.out];omega,KI3⟩
     case measure=>simp[RowKit.intOf];omega
    ·have hlt':¬(gs.length:Int)<(ks.length:Int):=by omega
     go_wp2
     go_meet
     exact⟨gs,ka,kc2,T2,P2,M2,L2,rfl,by omega,KI⟩
  obtain⟨gs,ka,kc2,T2,P2,M2,L2,rfl,hgl,KI⟩:=hcut
  clear I0
  have hgl0:0<gs.length:=by omega
  obtain⟨kg,rfl⟩:∃kg,ka=some ⟨kg,0,none⟩:=by
   obtain⟨ao,c',e,hp⟩:=own_shape KI.out.row
   obtain⟨g',rfl⟩:=hp hgl0
   injection e with e
   exact⟨g',e⟩
  have ZG:Hid (ZBk wc kg gs):=by
   obtain⟨cs,h5⟩:=own_ty KI.out.row kg rfl
   refine⟨cs,h5,fun i hi=>?_⟩
   have:=World.ownsRow.cellAt KI.out.row i (by omega)
   rw[cell_of_row wc kg i _ _ _ h5,zC_get gs hi] at this
   exact this
  have HFE:Hid (hasR (D++T2) (f:Int)):=hasR_app HFR.out
  have NE:=hide (HN.out.app KI.out.st.ok (by omega) HFR.out)
  have hfew:T2.length≤4*tr n:=by
   have h1:=KI.out.few
   have h2:gs.length*tr n≤4*tr n:=Nat.mul_le_mul_right _ (by omega)
   omega
  have MK:=hide (mkD_any (kc:=kc2) (l0:=lf) KI.out.st ZG.out (KI.out.np kg rfl) (rc_may KI.out.st.ok hc HFE.out NE.out hgl (fun j hj=>KI.out.rep j hj)) (by
   have h3:D.length+tr (n+1)≤1649267441664:=HSZ.out
   have h4:tr (n+1)=4*tr n+1:=rfl
   rw[List.length_append]
   omega))
  obtain⟨m0,m1,-⟩:=NBC.out wc KI.out.kp
  have hdP2:¬P2 d:=fun hp=>by
   rcases KI.out.pp d hp with hp|hp
   ·exact HP.out hp
   ·omega
  have hdl:=KI.out.dl
  have HDL:=hide hdl
  have HGL:=hide hgl
  have HFEW:=hide hfew
  have HDP2:=hide hdP2
  clear hdl hgl hfew hdP2
  go_upto_region 14 with(go_at_call 93;refine MK.out.mono ?_;clear MK;rintro e w5 ⟨g,D',P',M',rfl,mk,st,kp,pp,mm⟩;have MKP:=hide mk;have ST5:=hide st;have KP5:=hide kp;have PP5:=hide pp;have MM5:=hide mm;have RZ5:=(KI.out.dn.kept kp (fun hm=>HDP2.out (KI.out.st.mp hm)));have z5:=RZ5.cell (k:=f) (by have:=HDL.out;omega);have f5:=RZ5.fro f;clear mk st kp pp mm)
  clear z5 f5 m0 m1
  have RZ6:=RZ5.set f g
  have z6:=RZ6.cell (k:=f) (by rw[List.length_set];have:=HDL.out;omega)
  rw[getD_here (by have:=HDL.out;omega)] at z6
  have K6:Hid (Kept (fun k=>k=d) w5 (w5.setCell ⟨d,f,none⟩ (.int .i64 g))):=(Kept.refl (fun k=>k=d) w5).setCell (p:=⟨d,f,none⟩) rfl _
  have HRZ6:=hide RZ6
  clear RZ5 RZ6
  generalize w5.setCell ⟨d,f,none⟩ (.int .i64 g)=w6 at *
  go_wp2
  go_ret
  have hgl:=HGL.out
  have hfew:=HFEW.out
  have hdP2:=HDP2.out
  obtain⟨T1,eT,hT1⟩:=mk_app MKP.out
  have hrep:=rc_make KI.out.st.ok hc (by omega) HFE.out NE.out hgl (fun j hj=>KI.out.rep j hj) hat2 MKP.out
  have eA:D++(T2++T1)=D':=by rw[eT,List.append_assoc]
  have hkg1:w1.heap.size≤kg:=(World.ownsRow.lt KI.out.row kg rfl).1
  have hwz:w.heap.size≤w1.heap.size:=Y1.out.size
  have hz5:=KI.out.kp.size
  have hdP':¬P' d:=fun hp=>by
   rcases PP5.out d hp with hp|hp|hp
   ·exact hdP2 hp
   ·omega
   ·omega
  refine⟨g,T2++T1,P',M',L2.set f g,rfl,by rw[eA];exact ST5.out.kept K6.out (fun k hp hF=>hdP' (by rw[←hF];exact hp)),HRZ6.out,by rw[List.length_set];exact HDL.out,by rw[eA];exact(by rw[eT];exact KI.out.dok.app KI.out.st.ok hc:DoneOk S D' l c L2).set hrep,by rw[eA];exact hrep,?_,fun k hp=>?_,fun k hm=>?_,?_⟩
  ·have k1:Kept (fun k=>M k∨k=d) w w1:=Kept.of_below Y1.out
   have k2:Kept (fun k=>M k∨k=d) w wc:=k1.trans KI.out.kp
   have k3:Kept (fun k=>M k∨k=d) w w5:=k2.trans_new KP5.out (fun k hk hF=>by
    rcases KI.out.mm k hF with h1|h1
    ·exact .inl h1
    ·omega)
   exact k3.trans_new K6.out (fun k _ hF=>.inr hF)
  ·rcases PP5.out k hp with hp|hp|hp
   ·rcases KI.out.pp k hp with hp|hp
    ·exact .inl hp
    ·exact .inr (by omega)
   ·exact .inr (by omega)
   ·exact .inr (by omega)
  ·rcases MM5.out k hm with hm|hm
   ·rcases KI.out.mm k hm with hm|hm
    ·exact .inl hm
    ·exact .inr (by omega)
   ·exact .inr (by omega)
  ·rw[List.length_append]
   show _≤4*tr n+1
   omega
end
theorem make_nums (n:Nat) (hn:n≤17592186044416) (V:World):(Instr.makeSlice 22 (.int .i64 (n:Int)) (.int .i64 (n:Int))).run Try.prog V=.ok (.slice (some ⟨V.heap.size,0,none⟩) n n) (V.alloc (.cells (zC (List.replicate n 0)).toArray 3)):=by
 have:=run_make_row' (P:=Try.prog) 22 3 (.int .i64 0) 8 Try.underlying22 Try.info3 rfl .i64 .i64 n (by omega) (by omega) V
 rw[made_cells] at this
 rw[this]
 simp[zC]
def LfQ (S:List Int) (l c s:Nat) (f:Int) (D:List Nd) (P M:Nat→Prop) (w:World) (e:Ending) (w':World):Prop:=∃g T P' M',e=.returned (.int .i64 g)∧St w' s S (D++T) P' M'∧RepC S (D++T) l c f g∧Kept M w w'∧(∀k,P' k→P k∨w.heap.size≤k)∧(∀k,M' k→M k∨w.heap.size≤k)∧T.length≤tr S.length
def Neg (Ld:List Int) (i:Nat):Prop:=∀j,j<i→Ld.getD j 0= -1
section
variable {S:List Int} {D:List Nd} {P M:Nat→Prop} {l c s f:Nat} {w:World}
set_option maxRecDepth 100000 in
set_option maxHeartbeats 4000000 in
theorem leftD_any (h:St w s S D P M) (hl:l<S.length) (hc:(c:Int)<S.getD l 0) (h4:∀x∈S,x≤4) (hf:f<D.length+2) (hsz:D.length+tr S.length≤1649267441664):
 Calls Try.prog 87 #[.pointer (some ⟨s,0,none⟩),.int .i64 (f:Int),.int .i64 (l:Int),.int .i64 (c:Int)] w fun e w'=>LfQ S l c s (f:Int) D P M w e w':=by
 obtain⟨ng,nc,NC,_⟩:=h.look
 obtain⟨nn,hnn⟩:∃nn,D.length+2=nn:=⟨_,rfl⟩
 have s0:=NC w (Below.refl _ _)
 rw[hnn] at s0 hf
 have hn2:nn≤17592186044416:=by omega
 have hmk:=make_nums nn hn2
 have HNN:=hide hnn
 have H:=hide h
 have HSZ:=hide hsz
 have X1:Hid (Below w.heap.size w (w.alloc (.cells (zC (List.replicate nn 0)).toArray 3))):=al (Below.refl _ _) _
 have Z1:=hide (RwZ.made w (List.replicate nn 0))
 clear NC hnn h hsz
 go_enter Try.func87,Try.ntmps87
 go_wp2
 clear hmk s0
 generalize w.alloc (.cells (zC (List.replicate nn 0)).toArray 3)=w1 at *
 obtain⟨d,hd⟩:∃d,w.heap.size=d:=⟨_,rfl⟩
 have HD:=hide hd
 rw[hd] at Z1 ⊢
 clear hd
 go_loopw [10] (fun v10 wr=>∃i:Nat,i≤nn∧v10=.int .i64 (i:Int)∧∃Ld,Hid (Ld.length=nn∧Neg Ld i)∧Hid (RwZ wr d Ld)∧Hid (Below w.heap.size w wr)) (fun v _=>nn-(RowKit.intOf v).toNat)
 case atStart=>exact⟨0,Nat.zero_le _,rfl,_,⟨by simp,fun j hj=>absurd hj (by omega)⟩,Z1,X1⟩
 case round=>
  obtain⟨i,hi,rfl,Ld,HL,ZL,BL⟩:=hrel
  clear Z1 X1
  by_cases hlt:i<nn
  ·have hlt':(i:Int)<(nn:Int):=by omega
   have q2:=ZL.out.cell (k:=i) (by rw[HL.out.1];exact hlt)
   have f2:=ZL.out.fro i
   have Z3:=hide (ZL.out.set i (-1))
   have BB:Hid (Below w.heap.size w (wr.setCell ⟨d,i,none⟩ (.int .i64 (-1)))):=BL.out.trans ((Kept.refl (fun z=>z=d) wr).setCell (p:=⟨d,i,none⟩) rfl _|>.below BL.out.size (fun z hz=>by rw[hz,←HD.out];exact Nat.le_refl _))
   have HL2:Hid ((Ld.set i (-1)).length=nn∧Neg (Ld.set i (-1)) (i+1)):=⟨by rw[List.length_set];exact HL.out.1,fun j hj=>by
    by_cases e:i=j
    ·subst e;exact getD_here (by rw[HL.out.1];exact hlt)
    ·rw[getD_else e];exact HL.out.2 j (by omega)⟩
   go_wp2
   go_roundw
   case rel=>exact⟨i+1,by omega,by go_num,_,HL2,Z3,BB⟩
   case measure=>simp[RowKit.intOf];omega
  ·have hlt':¬(i:Int)<(nn:Int):=by omega
   have e:i=nn:=by omega
   have HN:Hid (Neg Ld nn):=by rw[←e];exact HL.out.2
   have CALL:Hid (Calls Try.prog 94 #[.pointer (some ⟨s,0,none⟩),.int .i64 (f:Int),.int .i64 (l:Int),.int .i64 (c:Int),.slice (some ⟨d,0,none⟩) nn nn] wr fun e w'=>KnL S l c s d (f:Int) nn D P M S.length wr e w'):=by
    have:=known_any hl hc h4 S.length wr D P M Ld f (H.out.below BL.out) ZL.out (fun hp=>by have:=H.out.plt hp;have:=HD.out;omega) ⟨by have:=HL.out.1;have:=HNN.out;omega,fun f' hf' h0=>by rw[HN.out f' (by rw[←HL.out.1];exact hf')] at h0;omega⟩ (by rw[HL.out.1];exact hf) (by omega) HSZ.out
    rw[HL.out.1] at this
    exact this
   clear e
   go_wp2_with (go_at_call 94;refine CALL.out.mono ?_;clear CALL;rintro e w2 hx;have HX:=hide hx;obtain⟨g,-,-,-,-,rfl,-⟩:=hx)
   go_ret
   obtain⟨g',T,P',M',L',e,st,dn,dl,dok,rep,kp,pp,mm,few⟩:=HX.out
   have hz:=BL.out.size
   refine⟨g',T,P',M',e,st,rep,(Kept.of_below BL.out).trans_new kp (fun k hk hF=>?_),fun k hp=>?_,fun k hm=>?_,few⟩
   ·rcases hF with hF|hF
    ·exact hF
    ·have:=HD.out;omega
   ·rcases pp k hp with hp|hp
    ·exact .inl hp
    ·exact .inr (by omega)
   ·rcases mm k hm with hm|hm
    ·exact .inl hm
    ·exact .inr (by omega)
end
end Go.Proofs.Ytnddhkhmbjeefaa

