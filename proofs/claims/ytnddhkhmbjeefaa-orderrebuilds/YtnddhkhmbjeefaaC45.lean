/-
  What the document's of keeps in memory, and what it leaves. No condition.
-/
import Derived.Test.YtnddhkhmbjeefaaC44
namespace Go.Proofs.Ytnddhkhmbjeefaa
open Go.RowKit Go.Lib Go.Maps
structure OfX (S:List Int) (most:Int) (b s na:Nat) (sz od:Value) (w:World) (D:List Nd) (bg:Nat) (ovr:Bool) (n2:Nat) (xs:List Value) (ov av:Value) (AT:List Int) (PS MS QS QM P M:Nat→Prop):Prop where
 st:St w s S D PS MS
 bu:BuX w b s sz od most ov av n2 xs AT (bg:Int) ovr QS QM
 pq:∀k,PS k→¬QS k
 ps:∀k,PS k→P k
 qs:∀k,QS k→P k
 ms:∀k,MS k→M k
 qm:∀k,QM k→M k
 mp:∀k,M k→P k
 mc:∀k,M k→MS k∨QM k
 lt:∀k,P k→k<w.heap.size
 na:na≤AT.length
structure OfV (S o:List Int) (most:Int) (w:World) (D N:List Nd) (R2:List ND) (AT:List Int) (P M:Nat→Prop):Prop where
 nd:R2.map ND.nd=N
 ok:Ok (ledS S o) most N
 at':AtOk S o D N AT
 kid:∀y∈R2,ZBk w y.kb y.ks∧P y.kb∧¬M y.kb
def OfS (S o:List Int) (most:Int) (b s na:Nat) (sz od:Value) (w:World) (D N:List Nd) (bg:Nat) (P M:Nat→Prop):Prop:=∃R2 ov av AT PS MS QS QM,OfX S most b s na sz od w D bg false R2.length (ndC R2) ov av AT PS MS QS QM P M∧OfV S o most w D N R2 AT P M
def OfD (S:List Int) (most:Int) (b s na:Nat) (sz od:Value) (w:World) (D:List Nd) (bg q:Nat) (P M:Nat→Prop):Prop:=∃n2 xs ov av AT PS MS QS QM,OfX S most b s na sz od w D bg true n2 xs ov av AT PS MS QS QM P M∧n2+q≤bg
section
variable {S o:List Int} {most:Int} {b s na bg q n2:Nat} {sz od ov av:Value} {w w':World} {D N:List Nd} {R2:List ND} {xs:List Value} {AT:List Int} {ovr:Bool} {PS MS QS QM P M F:Nat→Prop}
theorem OfX.kept (h:OfX S most b s na sz od w D bg ovr n2 xs ov av AT PS MS QS QM P M) (hk:Kept F w w') (hF:∀k,P k→¬F k):OfX S most b s na sz od w' D bg ovr n2 xs ov av AT PS MS QS QM P M:=
 ⟨h.st.kept hk (fun k hp=>hF k (h.ps k hp)),h.bu.kept hk (fun k hp=>hF k (h.qs k hp)),h.pq,h.ps,h.qs,h.ms,h.qm,h.mp,h.mc,fun k hp=>Nat.lt_of_lt_of_le (h.lt k hp) hk.size,h.na⟩
theorem OfV.kept (h:OfV S o most w D N R2 AT P M) (hk:Kept F w w') (hF:∀k,P k→¬F k):OfV S o most w' D N R2 AT P M:=
 ⟨h.nd,h.ok,h.at',fun y hy=>⟨(h.kid y hy).1.kept hk (hF _ (h.kid y hy).2.1),(h.kid y hy).2⟩⟩
theorem OfS.kept (h:OfS S o most b s na sz od w D N bg P M) (hk:Kept F w w') (hF:∀k,P k→¬F k):OfS S o most b s na sz od w' D N bg P M:=by
 obtain⟨R2,ov,av,AT,PS,MS,QS,QM,h1,h2⟩:=h
 exact⟨R2,ov,av,AT,PS,MS,QS,QM,h1.kept hk hF,h2.kept hk hF⟩
theorem OfD.kept (h:OfD S most b s na sz od w D bg q P M) (hk:Kept F w w') (hF:∀k,P k→¬F k):OfD S most b s na sz od w' D bg q P M:=by
 obtain⟨n2,xs,ov,av,AT,PS,MS,QS,QM,h1,h2⟩:=h
 exact⟨n2,xs,ov,av,AT,PS,MS,QS,QM,h1.kept hk hF,h2⟩
theorem OfS.lt (h:OfS S o most b s na sz od w D N bg P M) {k:Nat} (hk:P k):k<w.heap.size:=by
 obtain⟨R2,ov,av,AT,PS,MS,QS,QM,h1,h2⟩:=h
 exact h1.lt k hk
theorem OfS.mp (h:OfS S o most b s na sz od w D N bg P M) {k:Nat} (hk:M k):P k:=by
 obtain⟨R2,ov,av,AT,PS,MS,QS,QM,h1,h2⟩:=h
 exact h1.mp k hk
theorem OfD.lt (h:OfD S most b s na sz od w D bg q P M) {k:Nat} (hk:P k):k<w.heap.size:=by
 obtain⟨n2,xs,ov,av,AT,PS,MS,QS,QM,h1,_⟩:=h
 exact h1.lt k hk
theorem OfS.okD (h:OfS S o most b s na sz od w D N bg P M):Ok S MB D:=by
 obtain⟨R2,ov,av,AT,PS,MS,QS,QM,h1,h2⟩:=h
 exact h1.st.ok
theorem OfS.okN (h:OfS S o most b s na sz od w D N bg P M):Ok (ledS S o) most N:=by
 obtain⟨R2,ov,av,AT,PS,MS,QS,QM,h1,h2⟩:=h
 exact h2.ok
theorem OfS.cells (h:OfS S o most b s na sz od w D N bg P M):w.cell? ⟨b,0,none⟩=some (.pointer (some ⟨s,0,none⟩))∧w.cell? ⟨b,1,none⟩=some sz∧w.cell? ⟨b,2,none⟩=some od∧w.cell? ⟨b,7,none⟩=some (.bool false):=by
 obtain⟨R2,ov,av,AT,PS,MS,QS,QM,h1,h2⟩:=h
 obtain⟨c0,c1,c2,_,_,_,_,c7⟩:=h1.bu.cells
 exact⟨c0,c1,c2,c7⟩
theorem OfD.cells (h:OfD S most b s na sz od w D bg q P M):w.cell? ⟨b,0,none⟩=some (.pointer (some ⟨s,0,none⟩))∧w.cell? ⟨b,1,none⟩=some sz∧w.cell? ⟨b,2,none⟩=some od∧w.cell? ⟨b,7,none⟩=some (.bool true):=by
 obtain⟨n2,xs,ov,av,AT,PS,MS,QS,QM,h1,_⟩:=h
 obtain⟨c0,c1,c2,_,_,_,_,c7⟩:=h1.bu.cells
 exact⟨c0,c1,c2,c7⟩
theorem OfS.left {l c f:Nat} (ho:IsOrd S o) (h:OfS S o most b s na sz od w D N bg P M) (hl:l<S.length) (hc:(c:Int)<S.getD l 0) (h4:∀x∈S,x≤4) (hf:f<D.length+2) (hsz:D.length+tr S.length≤1649267441664):
 Calls Try.prog 87 #[.pointer (some ⟨s,0,none⟩),.int .i64 (f:Int),.int .i64 (l:Int),.int .i64 (c:Int)] w fun e w'=>∃g T P' M',e=.returned (.int .i64 g)∧OfS S o most b s na sz od w' (D++T) N bg P' M'∧RepC S (D++T) l c (f:Int) g∧Kept M w w'∧(∀k,P' k→P k∨w.heap.size≤k)∧(∀k,M' k→M k∨w.heap.size≤k)∧T.length≤tr S.length:=by
 obtain⟨R2,ov,av,AT,PS,MS,QS,QM,h1,h2⟩:=h
 refine(leftD_any h1.st hl hc h4 hf hsz).mono (fun e w' hx=>?_)
 obtain⟨g,T,P',M',he,st,rep,kp,pp,mm,few⟩:=hx
 have kM:=kp.mono (fun k hk=>h1.ms k hk)
 have hz:=kp.size
 refine⟨g,T,fun k=>P k∨P' k,fun k=>M' k∨QM k,he,⟨R2,ov,av,AT,P',M',QS,QM,⟨st,h1.bu.kept kp (fun k hq hm=>h1.pq k (h1.st.mp hm) hq),fun k hp hq=>?_,fun k hp=>.inr hp,fun k hq=>.inl (h1.qs k hq),fun k hm=>.inl hm,fun k hm=>.inr hm,fun k hm=>?_,fun k hm=>hm,fun k hp=>?_,h1.na⟩,⟨h2.nd,h2.ok,h2.at'.app ho h1.st.ok,fun y hy=>⟨(h2.kid y hy).1.kept kM (h2.kid y hy).2.2,.inl (h2.kid y hy).2.1,fun hm=>?_⟩⟩⟩,rep,kM,fun k hp=>?_,fun k hm=>?_,few⟩
 ·rcases pp k hp with h3|h3
  ·exact h1.pq k h3 hq
  ·have:=h1.lt k (h1.qs k hq);omega
 ·rcases hm with hm|hm
  ·exact .inr (st.mp hm)
  ·exact .inl (h1.mp k (h1.qm k hm))
 ·rcases hp with hp|hp
  ·exact Nat.lt_of_lt_of_le (h1.lt k hp) hz
  ·exact st.plt hp
 ·rcases hm with hm|hm
  ·rcases mm _ hm with h3|h3
   ·exact(h2.kid y hy).2.2 (h1.ms _ h3)
   ·have:=h1.lt _ (h2.kid y hy).2.1;omega
  ·exact(h2.kid y hy).2.2 (h1.qm _ hm)
 ·rcases hp with hp|hp
  ·exact .inl hp
  ·exact(pp k hp).imp (h1.ps k) id
 ·rcases hm with hm|hm
  ·exact(mm k hm).imp (h1.ms k) id
  ·exact .inl (h1.qm k hm)
end
def OfL (S o:List Int) (most:Int) (b s na:Nat) (sz od:Value) (f:Int) (D N:List Nd) (bg q:Nat) (P M:Nat→Prop) (w:World) (e:Ending) (w':World):Prop:=∃r T P' M' bg',e=.returned (.int .i64 r)∧Kept M w w'∧(∀k,P' k→P k∨w.heap.size≤k)∧(∀k,M' k→M k∨w.heap.size≤k)∧bg≤bg'∧(bg':Int)≤most+1∧T.length≤4*tr S.length*(bg'-bg)∧
 ((∃N2,OfS S o most b s na sz od w' (D++T) N2 bg' P' M'∧ins (ledS S o) most N (newF o D f)=(r,0,N2)∧bg'=N2.length+q∧(bg':Int)≤most)∨(OfD S most b s na sz od w' (D++T) bg' q P' M'∧OverP (ledS S o) most q N (newF o D f)))
def OfC (S o:List Int) (most:Int) (b s na:Nat) (sg sc oc:Nat) (oo:Option Addr) (n:Nat):Prop:=∀(w:World) (D N:List Nd) (bg q:Nat) (P M:Nat→Prop) (f:Nat),OfS S o most b s na (.slice (some ⟨sg,0,none⟩) S.length sc) (.slice oo o.length oc) w D N bg P M→ZBk w sg S→¬P sg→ZAt w oo o→(∀k,oo.map Addr.block=some k→¬P k)→f<D.length+2→bg=N.length+q→(bg:Int)≤most→(∀k (hk:k<o.length),k+n<o.length→¬Dpd S D (f:Int) (o[k]).toNat)→D.length+4*tr S.length*(8194-bg)≤1649267441664→
 Calls Try.prog 79 #[.pointer (some ⟨b,0,none⟩),.int .i64 (f:Int)] w fun e w'=>OfL S o most b s na (.slice (some ⟨sg,0,none⟩) S.length sc) (.slice oo o.length oc) (f:Int) D N bg q P M w e w'
structure OfE (S o:List Int) (most:Int) (D N:List Nd) (f i0:Nat):Prop where
 ho:IsOrd S o
 okD:Ok S MB D
 okN:Ok (ledS S o) most N
 hf:f<D.length+2
 hi:i0<o.length
 hang:Hang (ledS S o) (newF o D (f:Int)) i0
 asks:Asks (ledS S o) (newF o D (f:Int)) i0
 none:¬ ∃r,Rep (ledS S o) N (newF o D (f:Int)) r
structure KbI (S o:List Int) (most:Int) (b s na:Nat) (sz od:Value) (D N:List Nd) (f i0 bg0 q:Nat) (P M:Nat→Prop) (w1 wr:World) (v:Value) (gs:List Int) (c:Nat) (T:List Nd) (P' M':Nat→Prop) (bg':Nat):Prop where
 row:wr.ownsRow w1.heap.size 3 1 v gs.length (zC gs)
 np:∀k,v.ownBlock=some k→¬P' k
 kp:Kept M w1 wr
 pp:∀k,P' k→P k∨w1.heap.size≤k
 mm:∀k,M' k→M k∨w1.heap.size≤k
 bl:bg0≤bg'
 bh:(bg':Int)≤most+1
 few:T.length≤4*tr S.length*(bg'-bg0)+c*tr S.length
 gc:gs.length≤c
 res:(∃N2,OfS S o most b s na sz od wr (D++T) N2 bg' P' M'∧gs.length=c∧kidsF (ins (ledS S o) most) N ((cuts (ledS S o) (newF o D (f:Int)) i0).take c)=(gs,0,N2)∧bg'=N2.length+(q+1)∧(bg':Int)≤most)∨(OfD S most b s na sz od wr (D++T) bg' (q+1) P' M'∧OverP (ledS S o) most q N (newF o D (f:Int)))
section
variable {S o:List Int} {most:Int} {b s na:Nat} {sz od:Value} {D N N2 T T1:List Nd} {f i0 bg0 q c bg' g:Nat} {P M P' M' P1 M1:Nat→Prop} {w1 wr w2 w3:World} {v:Value} {gs:List Int} {e:Ending}
theorem KbI.below (h:KbI S o most b s na sz od D N f i0 bg0 q P M w1 wr v gs c T P' M' bg') (y:Below wr.heap.size wr w2):KbI S o most b s na sz od D N f i0 bg0 q P M w1 w2 v gs c T P' M' bg':=
 ⟨own_below h.row y,h.np,h.kp.trans (Kept.of_below y),h.pp,h.mm,h.bl,h.bh,h.few,h.gc,by
   rcases h.res with⟨N2,h1,h2⟩|⟨h1,h2⟩
   ·exact .inl ⟨N2,h1.kept (F:=fun _=>False) (Kept.of_below y) (fun _ _ h=>h),h2⟩
   ·exact .inr ⟨h1.kept (F:=fun _=>False) (Kept.of_below y) (fun _ _ h=>h),h2⟩⟩
theorem newF_app (ho:IsOrd S o) (h:Ok S MB D) (hf:f<D.length+2):Alike (ledS S o) (newF o (D++T) (f:Int)) (newF o D (f:Int)):=fun _ hp=>sayR_app h (led_pnt ho hp) ⟨by omega,by omega⟩
theorem KbI.push (E:OfE S o most D N f i0) (hc:(c:Int)<(ledS S o).getD i0 0) (h:KbI S o most b s na sz od D N f i0 bg0 q P M w1 wr v gs c T P' M' bg') (hv:OfS S o most b s na sz od wr (D++T) N2 bg' P' M') (hgc:gs.length=c) (hk:kidsF (ins (ledS S o) most) N ((cuts (ledS S o) (newF o D (f:Int)) i0).take c)=(gs,0,N2))
 (s2:OfS S o most b s na sz od w2 (D++T++T1) N2 bg' P1 M1) (rep:RepC S (D++T++T1) (o[i0]'E.hi).toNat c (f:Int) (g:Int)) (kp1:Kept M' wr w2) (pp1:∀k,P1 k→P' k∨wr.heap.size≤k) (mm1:∀k,M1 k→M' k∨wr.heap.size≤k) (few1:T1.length≤tr S.length)
 (hx:OfL S o most b s na sz od (g:Int) (D++T++T1) N2 bg' (q+1) P1 M1 w2 e w3):
 ∃r,e=.returned (.int .i64 r)∧w3.ownsRow w1.heap.size 3 1 v gs.length (zC gs)∧w1.heap.size≤w3.heap.size∧(Below w3.heap.size w3 (w3.alloc (.cells #[.int .i64 r] 3))→∀(g4 cap:Nat) (w4:World),w4.ownsRow w1.heap.size 3 1 (.slice (some ⟨g4,0,none⟩) (gs.length+1) cap) (gs.length+1) (zC gs++[.int .i64 r])→(w3.alloc (.cells #[.int .i64 r] 3)).grownBy w4 v.ownBlock→(v.ownBlock=some g4∨g4=(w3.alloc (.cells #[.int .i64 r] 3)).heap.size)→
  ∃T2 P2 M2 b2,KbI S o most b s na sz od D N f i0 bg0 q P M w1 w4 (.slice (some ⟨g4,0,none⟩) (gs++[r]).length cap) (gs++[r]) (c+1) T2 P2 M2 b2):=by
 obtain⟨r,T3,P3,M3,b3,rfl,kp3,pp3,mm3,bl3,bh3,few3,res3⟩:=hx
 have hvw:∀k,v.ownBlock=some k→w1.heap.size≤k∧k<wr.heap.size:=fun k hk=>World.ownsRow.lt h.row k hk
 have hvP1:∀k,v.ownBlock=some k→¬P1 k:=fun k hk hp=>by
  rcases pp1 k hp with hp|hp
  ·exact h.np k hk hp
  ·have:=(hvw k hk).2;omega
 have hvP3:∀k,v.ownBlock=some k→¬P3 k:=fun k hk hp=>by
  rcases pp3 k hp with hp|hp
  ·exact hvP1 k hk hp
  ·have:=(hvw k hk).2;have:=kp1.size;omega
 have hrow:w3.ownsRow w1.heap.size 3 1 v gs.length (zC gs):=own_kept (own_kept h.row kp1 (fun k hk hm=>h.np k hk (hv.mp hm))) kp3 (fun k hk hm=>hvP1 k hk (s2.mp hm))
 have hz1:=h.kp.size
 have hz2:=kp1.size
 have hz3:=kp3.size
 refine⟨r,rfl,hrow,by omega,fun x g4 cap w4 o4 gr h4=>⟨T++(T1++T3),P3,M3,b3,?_⟩⟩
 have hkg:Kept (fun k=>v.ownBlock=some k) w3 w4:=(Kept.of_below x).trans_new (kept_of_grown gr) (fun _ _ h=>h)
 have eA:D++(T++(T1++T3))=D++T++T1++T3:=by simp only[List.append_assoc]
 have hxs:=x.size
 have hcl:c<(cuts (ledS S o) (newF o D (f:Int)) i0).length:=by rw[cuts_length];omega
 have hS12:i0<(ledS S o).length:=by rw[ledS_length E.ho,←E.ho.len];exact E.hi
 have hl:Alike (ledS S o) (cutP (newF o D (f:Int)) i0 c) (newF o (D++T++T1) (g:Int)):=fun p hp=>by
  rw[←new_cut E.ho E.hi rep p hp]
  have:=newF_app (T:=T++T1) E.ho E.okD E.hf (upd p i0 c) (hp.upd hc)
  rw[←List.append_assoc] at this
  exact this.symm
 have hci:Hang (ledS S o) (cutP (newF o D (f:Int)) i0 c) 0:=(E.hang.cut hc).all
 have ia:=ins_alike hv.okN hci hl
 refine⟨by rw[show(gs++[r]).length=gs.length+1 by simp,show zC (gs++[r])=zC gs++[.int .i64 r] by simp[zC]];exact o4,fun k hk hp=>?_,?_,fun k hp=>?_,fun k hm=>?_,Nat.le_trans h.bl bl3,bh3,?_,by rw[List.length_append,List.length_singleton];omega,?_⟩
 ·have e4:g4=k:=Option.some.inj hk
  rcases h4 with h4|h4
  ·exact hvP3 k (by rw[←e4];exact h4) hp
  ·have:k<w3.heap.size:=by
    rcases res3 with⟨_,s3,_⟩|⟨s3,_⟩
    ·exact s3.lt hp
    ·exact s3.lt hp
   omega
 ·refine((h.kp.trans_new kp1 (fun k hk hm=>?_)).trans_new kp3 (fun k hk hm=>?_)).trans_new hkg (fun k hk hF=>by have:=(hvw k hF).1;omega)
  ·rcases h.mm k hm with h1|h1
   ·exact h1
   ·omega
  ·rcases mm1 k hm with h1|h1
   ·rcases h.mm k h1 with h1|h1
    ·exact h1
    ·omega
   ·omega
 ·rcases pp3 k hp with h1|h1
  ·rcases pp1 k h1 with h1|h1
   ·exact h.pp k h1
   ·exact .inr (by omega)
  ·exact .inr (by omega)
 ·rcases mm3 k hm with h1|h1
  ·rcases mm1 k h1 with h1|h1
   ·exact h.mm k h1
   ·exact .inr (by omega)
  ·exact .inr (by omega)
 ·have f0:=h.few
  have hb:=h.bl
  rw[List.length_append,List.length_append,Nat.add_mul,Nat.one_mul]
  have e1:b3-bg0=(b3-bg')+(bg'-bg0):=by omega
  rw[e1,Nat.mul_add]
  omega
 ·rcases res3 with⟨N3,s3,i3,hb3,hm3⟩|⟨s3,ov3⟩
  ·refine .inl ⟨N3,by rw[eA];exact s3.kept hkg (fun k hp hF=>hvP3 k hF hp),by rw[List.length_append,List.length_singleton,hgc],?_,hb3,hm3⟩
   rw[List.take_succ_eq_append_getElem hcl,kids_snoc _ _ _ _ hk,show(cuts (ledS S o) (newF o D (f:Int)) i0)[c]=cutP (newF o D (f:Int)) i0 c by simp[cuts],ia,i3]
   simp
  ·refine .inr ⟨by rw[eA];exact s3.kept hkg (fun k hp hF=>hvP3 k hF hp),?_⟩
   refine OverP.cut E.okN hS12 E.hang E.asks E.none hc hk hv.okN ?_
   unfold OverP at ov3 ⊢
   rw[ia]
   exact ov3
end
end Go.Proofs.Ytnddhkhmbjeefaa

