/-
  An arena's nodes laid into the document's store: copy1 by its contract. Conditions: as the store's.
-/
import Derived.Test.YtnddhkhmbjeefaaC42
import Derived.Test.YtnddhkhmbjeefaaC36
import Derived.Deep.DeepCutAuto
import Derived.Deep.CutBlock
namespace Go.Proofs.Ytnddhkhmbjeefaa
open Go.RowKit Go.Lib Go.Maps
abbrev RepN (S:List Int) (N D:List Nd) (f g:Int):Prop:=Rep S D (fun p=>sayR N p f) g
def CpOk (S:List Int) (N D:List Nd) (Ld:List Int):Prop:=Ld.length=N.length+2∧Ld.getD 0 0=0∧Ld.getD 1 0=1∧∀f:Nat,f<Ld.length→0<Ld.getD f 0→RepN S N D (f:Int) (Ld.getD f 0)
section
variable {S:List Int} {N D T D':List Nd} {M0:Int} {l0 f:Nat} {g:Int} {ks gs Ld:List Int}
theorem CpOk.app (h:Ok S MB D) (d:CpOk S N D Ld):CpOk S N (D++T) Ld:=⟨d.1,d.2.1,d.2.2.1,fun f hf h0=>Rep.app h (d.2.2.2 f hf h0)⟩
theorem CpOk.set (h2:2≤f) (d:CpOk S N D Ld) (hg:RepN S N D (f:Int) g):CpOk S N D (Ld.set f g):=⟨by rw[List.length_set];exact d.1,by rw[getD_else (by omega)];exact d.2.1,by rw[getD_else (by omega)];exact d.2.2.1,fun f' hf h0=>by
 rw[List.length_set] at hf
 by_cases e:f=f'
 ·subst e
  rw[getD_here hf]
  exact hg
 ·rw[getD_else e] at h0 ⊢
  exact d.2.2.2 f' hf h0⟩
theorem cp_may (hN:Ok S M0 N) (h:Ok S MB D) (hf:hasR N (f:Int)) (hn:NdAt S N (f:Int) l0 ks) (hl:gs.length=ks.length) (hg:∀j,j<gs.length→RepN S N D (ks.getD j 0) (gs.getD j 0)):May S D (l0:Int) gs:=by
 refine⟨by omega,by have:=hn.lt;omega,by rw[hl,Int.toNat_natCast];exact hn.len,fun x hx=>?_⟩
 obtain⟨j,hj,rfl⟩:=List.getElem_of_mem hx
 have r:=hg j hj
 rw[List.getD_eq_getElem?_getD (l:=gs),List.getElem?_eq_getElem hj] at r
 replace r:RepN S N D (ks.getD j 0) gs[j]:=r
 obtain⟨k0,k1,k2⟩:=hn.kid j (by omega)
 have:=rep_lvl h r (say_hang hN _ _ (Nat.le_refl _) ⟨k0,by have:=hf.2;omega⟩ (l0+1) (by omega)) (by have:=hn.lt;omega)
 exact⟨r.1,by omega⟩
theorem cp_make (hN:Ok S M0 N) (h:Ok S MB D) (h2:2≤f) (hf:hasR N (f:Int)) (hn:NdAt S N (f:Int) l0 ks) (hl:gs.length=ks.length) (hg:∀j,j<gs.length→RepN S N D (ks.getD j 0) (gs.getD j 0)) (mk:MkP S MB D (l0:Int) gs g 0 D'):RepN S N D' (f:Int) g:=by
 refine⟨(MkP.says h (Pnt.zero h.sz) mk).1,fun p hp=>?_⟩
 have hpc:p l0<gs.length:=by rw[hl];exact hn.cls hp
 rw[(MkP.says h hp mk).2.1,Int.toNat_natCast,(hg _ hpc).2 p hp]
 exact(hn.says hN hp (by omega) hf.2).symm
end
def CpL (S:List Int) (N:List Nd) (s d:Nat) (f:Int) (D:List Nd) (P M:Nat→Prop) (n:Nat) (w:World) (e:Ending) (w':World):Prop:=∃g T P' M' Ld',e=.returned (.int .i64 g)∧St w' s S (D++T) P' M'∧RwZ w' d Ld'∧CpOk S N (D++T) Ld'∧RepN S N (D++T) f g∧Kept (fun k=>M k∨k=d) w w'∧(∀k,P' k→P k∨w.heap.size≤k)∧(∀k,M' k→M k∨w.heap.size≤k)∧T.length≤tr n
def CpC (S:List Int) (N:List Nd) (M0:Int) (Q:Nat→Prop) (x s d n:Nat):Prop:=∀(w:World) (D:List Nd) (P M:Nat→Prop) (Ld:List Int) (f:Nat),RA w x S M0 N Q→(∀k,Q k→¬P k∧k≠d∧k<w.heap.size)→St w s S D P M→RwZ w d Ld→¬P d→CpOk S N D Ld→f<N.length+2→S.length≤(lvl S N (f:Int)).toNat+n→D.length+tr n≤1649267441664→
 Calls Try.prog 85 #[.pointer (some ⟨x,0,none⟩),.pointer (some ⟨s,0,none⟩),.int .i64 (f:Int),.slice (some ⟨d,0,none⟩) Ld.length Ld.length] w fun e w'=>CpL S N s d (f:Int) D P M n w e w'
structure CpI (S:List Int) (N:List Nd) (s d:Nat) (D:List Nd) (P M:Nat→Prop) (n:Nat) (ks:List Int) (w1 wr:World) (v:Value) (gs:List Int) (T:List Nd) (P' M':Nat→Prop) (Ld':List Int):Prop where
 st:St wr s S (D++T) P' M'
 dn:RwZ wr d Ld'
 dok:CpOk S N (D++T) Ld'
 row:wr.ownsRow w1.heap.size 3 1 v gs.length (zC gs)
 np:∀k,v.ownBlock=some k→¬P' k
 kp:Kept (fun k=>M k∨k=d) w1 wr
 pp:∀k,P' k→P k∨w1.heap.size≤k
 mm:∀k,M' k→M k∨w1.heap.size≤k
 few:T.length≤gs.length*tr n
 rep:∀j,j<gs.length→RepN S N (D++T) (ks.getD j 0) (gs.getD j 0)
section
variable {S:List Int} {s d n:Nat} {N D T:List Nd} {P M P' M':Nat→Prop} {ks gs Ld':List Int} {w1 wr w2:World} {v:Value} {e:Ending}
theorem CpI.push (h:CpI S N s d D P M n ks w1 wr v gs T P' M' Ld') (hd:d<w1.heap.size) (hx:CpL S N s d (ks.getD gs.length 0) (D++T) P' M' n wr e w2):
 ∃g,e=.returned (.int .i64 g)∧w2.ownsRow w1.heap.size 3 1 v gs.length (zC gs)∧w1.heap.size≤w2.heap.size∧(Below w2.heap.size w2 (w2.alloc (.cells #[.int .i64 g] 3))→∀(g4 cap:Nat) (w4:World),w4.ownsRow w1.heap.size 3 1 (.slice (some ⟨g4,0,none⟩) (gs.length+1) cap) (gs.length+1) (zC gs++[.int .i64 g])→(w2.alloc (.cells #[.int .i64 g] 3)).grownBy w4 v.ownBlock→(v.ownBlock=some g4∨g4=(w2.alloc (.cells #[.int .i64 g] 3)).heap.size)→
  ∃T2 P2 M2 L2,CpI S N s d D P M n ks w1 w4 (.slice (some ⟨g4,0,none⟩) (gs++[g]).length cap) (gs++[g]) T2 P2 M2 L2):=by
 obtain⟨g,T1,P1,M1,L1,rfl,st,dn,dok,rep,kp,pp,mm,few⟩:=hx
 have hrow:w2.ownsRow w1.heap.size 3 1 v gs.length (zC gs):=own_kept h.row kp (fun k hk hF=>by
  rcases hF with hF|hF
  ·exact h.np k hk (h.st.mp hF)
  ·have:=World.ownsRow.lt h.row k hk
   omega)
 have hz:w1.heap.size≤w2.heap.size:=Nat.le_trans h.kp.size kp.size
 refine⟨g,rfl,hrow,hz,fun x g4 cap w4 o4 gr h4=>⟨T++T1,P1,M1,L1,?_⟩⟩
 have hvP1:∀k,v.ownBlock=some k→¬P1 k:=fun k hk hp=>by
  rcases pp k hp with hp|hp
  ·exact h.np k hk hp
  ·have:=World.ownsRow.lt h.row k hk
   omega
 have hkg:Kept (fun k=>v.ownBlock=some k) w2 w4:=(Kept.of_below x).trans_new (kept_of_grown gr) (fun _ _ h=>h)
 have hok:=h.st.ok
 have hvw:∀k,v.ownBlock=some k→w1.heap.size≤k:=fun k hk=>(World.ownsRow.lt h.row k hk).1
 have eA:D++(T++T1)=(D++T)++T1:=(List.append_assoc _ _ _).symm
 refine⟨by rw[eA];exact st.kept hkg (fun k hp hF=>hvP1 k hF hp),dn.kept hkg (fun hF=>by have:=hvw d hF;omega),by rw[eA];exact dok,?_,fun k hk=>?_,?_,fun k hp=>?_,fun k hm=>?_,?_,fun j hj=>?_⟩
 ·rw[show(gs++[g]).length=gs.length+1 by simp,show zC (gs++[g])=zC gs++[.int .i64 g] by simp[zC]]
  exact o4
 ·have e4:g4=k:=Option.some.inj hk
  rcases h4 with h4|h4
  ·exact hvP1 k (by rw[←e4];exact h4)
  ·intro hp
   have h5:=st.plt hp
   have h6:=x.size
   omega
 ·refine(h.kp.trans_new kp (fun k hk hF=>?_)).trans_new hkg (fun k hk hF=>by have:=hvw k hF;omega)
  rcases hF with hF|hF
  ·rcases h.mm k hF with h1|h1
   ·exact .inl h1
   ·omega
  ·exact .inr hF
 ·rcases pp k hp with hp|hp
  ·exact h.pp k hp
  ·exact .inr (Nat.le_trans h.kp.size hp)
 ·rcases mm k hm with hm|hm
  ·exact h.mm k hm
  ·exact .inr (Nat.le_trans h.kp.size hm)
 ·rw[List.length_append,List.length_append,List.length_singleton,Nat.add_mul,Nat.one_mul]
  have:=h.few
  omega
 ·rcases Nat.lt_or_ge j gs.length with h1|h1
  ·rw[getD_left h1,eA]
   exact Rep.app hok (h.rep j h1)
  ·have ej:j=gs.length:=by rw[List.length_append,List.length_singleton] at hj;omega
   subst ej
   rw[getD_snoc rfl,eA]
   exact rep
end
section
variable {S:List Int} {N:List Nd} {M0:Int} {Q:Nat→Prop} {x s d:Nat}
set_option maxRecDepth 100000 in
set_option maxHeartbeats 8000000 in
theorem copy1_any (h4:∀x∈S,x≤4):∀n,CpC S N M0 Q x s d n:=by
 obtain⟨i3,hi3,hz30,hz31,hz32⟩:=info_parts Try.info3
 have low:∀n (w:World) (D:List Nd) (P M:Nat→Prop) (Ld:List Int) (f:Nat),St w s S D P M→RwZ w d Ld→CpOk S N D Ld→f<2→Calls Try.prog 85 #[.pointer (some ⟨x,0,none⟩),.pointer (some ⟨s,0,none⟩),.int .i64 (f:Int),.slice (some ⟨d,0,none⟩) Ld.length Ld.length] w fun e w'=>CpL S N s d (f:Int) D P M n w e w':=by
  intro n w D P M Ld f h hz hdk hf
  have hl:=hdk.1
  have hf':(f:Int)<2:=by omega
  have z1:=hz.cell (k:=f) (by omega)
  have e1:Ld.getD f 0=(f:Int):=by
   rcases (show f=0∨f=1 by omega) with rfl|rfl
   ·exact hdk.2.1
   ·exact hdk.2.2.1
  rw[e1] at z1
  have hfl:(f:Int)<(Ld.length:Int):=by omega
  have FIN:Hid (∀e,e=Ending.returned (.int .i64 (f:Int))→CpL S N s d (f:Int) D P M n w e w):=fun e he=>⟨(f:Int),[],P,M,Ld,he,by rw[List.append_nil];exact h,hz,by rw[List.append_nil];exact hdk,⟨⟨by omega,by omega⟩,fun p _=>by
   show sayR (D++[]) p (f:Int)=sayR N p (f:Int)
   rw[sayR_low (by omega),sayR_low (by omega)]⟩,Kept.refl _ _,fun k hk=>.inl hk,fun k hk=>.inl hk,Nat.zero_le _⟩
  clear h hz hdk hl e1
  go_enter Try.func85,Try.ntmps85
  go_wp2
  go_ret
  exact FIN.out _ rfl
 intro n
 induction n with
 |zero=>
  intro w D P M Ld f hA hQ h hz hp hdk hf hlv hsz
  have hN:=hA.ok
  refine low 0 w D P M Ld f h hz hdk ?_
  rcases Nat.lt_or_ge f 2 with h2|h2
  ·exact h2
  ·obtain⟨l',ks,hn⟩:=hN.ndAt (f:=(f:Int)) (by omega) (by omega)
   have:=hn.lev
   have:=hn.lt
   omega
 |succ n ih=>
  intro w D P M Ld f hA hQ h hz hp hdk hf hlv hsz
  by_cases h2:f<2
  ·exact low (n+1) w D P M Ld f h hz hdk h2
  clear low
  have hN:=hA.ok
  have h2':¬(f:Int)<2:=by omega
  have hfl:f<Ld.length:=by rw[hdk.1];exact hf
  have hfl':(f:Int)<(Ld.length:Int):=by omega
  have z1:=hz.cell hfl
  obtain⟨v0,hv0⟩:∃v0,Ld.getD f 0=v0:=⟨_,rfl⟩
  rw[hv0] at z1
  by_cases hge:0<v0
  ·have FIN:Hid (∀e,e=Ending.returned (.int .i64 v0)→CpL S N s d (f:Int) D P M (n+1) w e w):=fun e he=>⟨v0,[],P,M,Ld,he,by rw[List.append_nil];exact h,hz,by rw[List.append_nil];exact hdk,by rw[List.append_nil,←hv0];exact hdk.2.2.2 f hfl (by rw[hv0];exact hge),Kept.refl _ _,fun k hk=>.inl hk,fun k hk=>.inl hk,Nat.zero_le _⟩
   clear hA hQ h hz hp hdk hlv hsz ih hv0
   go_enter Try.func85,Try.ntmps85
   go_wp2
   go_ret
   exact FIN.out _ rfl
  obtain⟨lf,ks,hn⟩:=hN.ndAt (f:=(f:Int)) (by omega) (by omega)
  have NDC:Hid (Calls Try.prog 69 #[.pointer (some ⟨x,0,none⟩),.int .i64 (f:Int)] w fun e w'=>∃g c,e=.returned (.tuple #[.agg #[.int .i64 (lf:Int),.slice (some ⟨g,0,none⟩) ks.length c],.int .i64 0])∧ZBk w' g ks∧w.heap.size≤g∧Below w.heap.size w w'):=(hA.node (f:Int)).mono (fun e w' ⟨hor,hb⟩=>by
   rcases hor with⟨i,lv,ks',g,c,h1,h2,h3,_,h5,h6⟩|⟨h1,_⟩
   ·have ha:=hn.at_
    rw[show((f:Int)-2).toNat=i by omega,h1] at ha
    cases ha
    exact⟨g,c,h3,h5,h6,hb⟩
   ·exact absurd ⟨by omega,by omega⟩ h1)
  have HA:=hide hA
  have HQ:=hide hQ
  have HN:=hide hn
  have HNO:=hide hN
  have H:=hide h
  have HZ:=hide hz
  have HP:=hide hp
  have HDK:=hide hdk
  have HSZ:=hide hsz
  have hksl:ks.length≤4:=by
   have h1:=hn.len
   have h2:=h4 (S.getD lf 0) (by rw[List.getD_eq_getElem?_getD,List.getElem?_eq_getElem hn.lt];exact List.getElem_mem _)
   omega
  have hk0:0<ks.length:=hn.pos hN
  have HKH:Hid (∀j,j<ks.length→hasR N (ks.getD j 0)∧(lf:Int)<lvl S N (ks.getD j 0)∧ks.getD j 0<(f:Int)):=fun j hj=>by
   obtain⟨k0,k1,k2⟩:=hn.kid j hj
   exact⟨⟨k0,by omega⟩,k2,k1⟩
  have HFR:Hid (hasR N (f:Int)):=⟨by omega,by omega⟩
  have hlvf:S.length≤lf+(n+1):=by
   have:=hn.lev
   rw[this,Int.toNat_natCast] at hlv
   exact hlv
  have hdlt:=hz.lt
  clear hA hQ h hz hp hdk hlv hsz hv0 hn hN
  go_enter Try.func85,Try.ntmps85
  go_upto_region 3 with fail
  clear z1
  go_upto_block 0 with(go_at_call 69;refine NDC.out.mono ?_;clear NDC;rintro e w0 ⟨kb,kc,rfl,zk,hkb,x0⟩;have ZK:=hide zk;have HKB:=hide hkb;have X0:=hide x0;clear zk hkb x0)
  have Y1:Hid (Below w0.heap.size w0 (w0.alloc (.cells #[.int .i64 (lf:Int),.slice (some ⟨kb,0,none⟩) ks.length kc] 86))):=al (Below.refl _ _) _
  have NB:=hide (heap_alloc_new w0 (.cells #[.int .i64 (lf:Int),.slice (some ⟨kb,0,none⟩) ks.length kc] 86))
  have HNB:Hid (w0.heap.size<(w0.alloc (.cells #[.int .i64 (lf:Int),.slice (some ⟨kb,0,none⟩) ks.length kc] 86)).heap.size):=by unfold Hid;simp
  generalize w0.alloc (.cells #[.int .i64 (lf:Int),.slice (some ⟨kb,0,none⟩) ks.length kc] 86)=w1 at *
  obtain⟨nb,hnb⟩:∃nb,w0.heap.size=nb:=⟨_,rfl⟩
  have HNE:=hide hnb
  rw[hnb] at NB HNB ⊢
  clear hnb
  have X1:=hide (bt X0.out Y1.out (Nat.le_refl _))
  have hd1:d<w1.heap.size:=Nat.lt_of_lt_of_le hdlt X1.out.size
  have NBC:Hid (∀W,Kept (fun k=>M k∨k=d) w1 W→W.cell? ⟨nb,0,none⟩=some (.int .i64 (lf:Int))∧W.cell? ⟨nb,1,none⟩=some (.slice (some ⟨kb,0,none⟩) ks.length kc)∧ZBk W kb ks):=fun W hW=>by
   have hx0:=X0.out.size
   have b:=(hW.block nb HNB.out (fun hF=>by
    have:=HNE.out
    rcases hF with hF|hF
    ·have:=H.out.plt (H.out.mp hF)
     omega
    ·omega)).trans NB.out
   refine⟨by rw[cell_of_row W _ _ _ _ _ b];rfl,by rw[cell_of_row W _ _ _ _ _ b];rfl,(ZK.out.below Y1.out).kept hW (fun hF=>?_)⟩
   have:=HKB.out
   rcases hF with hF|hF
   ·have:=H.out.plt (H.out.mp hF)
    omega
   ·omega
  have I0:Hid (CpI S N s d D P M n ks w1 w1 (.slice none 0 0) [] [] P M Ld):=⟨by rw[List.append_nil];exact H.out.below X1.out,HZ.out.below X1.out,by rw[List.append_nil];exact HDK.out,World.ownsRow_nil _ _ _ _,fun k hk=>(by cases hk),Kept.refl _ _,fun k hk=>.inl hk,fun k hk=>.inl hk,Nat.zero_le _,fun j hj=>(by cases hj)⟩
  go_cut [11] (fun v11 wx=>∃gs ka kc2 T2 P2 M2 L2,v11=.slice ka (List.length gs) kc2∧gs.length=ks.length∧Hid (CpI S N s d D P M n ks w1 wx (.slice ka gs.length kc2) gs T2 P2 M2 L2))
  case first=>
   go_wp2
   go_loopw [11,12] (fun v11 v12 wr=>∃(gs:List Int) (ka:Option Addr) (kc2:Nat) (T2:List Nd) (P2 M2:Nat→Prop) (L2:List Int),v11=.slice ka gs.length kc2∧v12=.int .i64 (gs.length:Int)∧gs.length≤ks.length∧Hid (CpI S N s d D P M n ks w1 wr (.slice ka gs.length kc2) gs T2 P2 M2 L2)) (fun _ v _=>ks.length-(RowKit.intOf v).toNat)
   case atStart=>exact⟨[],none,0,[],P,M,Ld,rfl,rfl,Nat.zero_le _,I0⟩
   case round=>
    obtain⟨gs,ka,kc2,T2,P2,M2,L2,rfl,rfl,hgk,KI⟩:=hrel
    clear I0
    obtain⟨m0,m1,zk⟩:=NBC.out wr KI.out.kp
    by_cases hlt:gs.length<ks.length
    ·have hlt':(gs.length:Int)<(ks.length:Int):=by omega
     have q1:=zk.cell hlt
     have hkj:=HKH.out _ hlt
     obtain⟨fj,hfj⟩:∃fj:Nat,ks.getD gs.length 0=(fj:Int):=⟨(ks.getD gs.length 0).toNat,by have:=hkj.1.1;omega⟩
     rw[hfj] at q1 hkj
     have hdl:L2.length=Ld.length:=by rw[KI.out.dok.1,HDK.out.1]
     have CALL:Hid (Calls Try.prog 85 #[.pointer (some ⟨x,0,none⟩),.pointer (some ⟨s,0,none⟩),.int .i64 (fj:Int),.slice (some ⟨d,0,none⟩) Ld.length Ld.length] wr fun e w'=>CpL S N s d (ks.getD gs.length 0) (D++T2) P2 M2 n wr e w'):=by
      have hz1:=X1.out.size
      have hz2:=KI.out.kp.size
      have:=ih wr (D++T2) P2 M2 L2 fj ((HA.out.below X1.out).kept KI.out.kp (fun k hk hF=>by
       have h1:=HQ.out k hk
       rcases hF with hF|hF
       ·exact h1.1 (H.out.mp hF)
       ·exact h1.2.1 hF)) (fun k hk=>by
       have h1:=HQ.out k hk
       refine⟨fun hp=>?_,h1.2.1,by omega⟩
       rcases KI.out.pp k hp with hp|hp
       ·exact h1.1 hp
       ·omega) KI.out.st KI.out.dn (fun hp=>by
       rcases KI.out.pp d hp with hp|hp
       ·exact HP.out hp
       ·omega) KI.out.dok (by have:=hkj.1.2;omega) (by have:=hkj.2.1;omega) (by
       have h1:=KI.out.few
       have h2:gs.length*tr n≤3*tr n:=Nat.mul_le_mul_right _ (by omega)
       have h3:D.length+tr (n+1)≤1649267441664:=HSZ.out
       have h4:tr (n+1)=4*tr n+1:=rfl
       rw[List.length_append]
       omega)
      rw[hdl] at this
      rw[hfj]
      exact this
     clear hfj hkj hdl m0 zk
     go_upto_region 7 with(first
      |(go_at_call 85;refine CALL.out.mono ?_;rintro e w2 hx;obtain⟨g,rfl,hrow,hz2,hpush⟩:=KI.out.push hd1 hx;have YY:Hid (Below w2.heap.size w2 (w2.alloc (.cells #[.int .i64 g] 3))):=(al (Below.refl _ _) _);have ROW:=hide (own_below hrow YY.out);have HPU:=hide (hpush YY.out);have SZ2:Hid (w1.heap.size≤(w2.alloc (.cells #[.int .i64 g] 3)).heap.size):=Nat.le_trans hz2 YY.out.size;clear hx hrow hz2 hpush)
      |(at_builtin;refine wpList_append_lies _ rfl (.tmp 39) (.tmp 49) 22 rfl w1.heap.size 3 i3 (.int .i64 0) 1 8 Try.underlying22 hi3 hz30 hz31 hz32 rfl (by decide) _ gs.length (zC gs) rfl ROW.out ⟨w2.heap.size,0,none⟩ 1 1 [.int .i64 g] rfl rfl (one_new w2 _ _) (by simp[Value.oneCell']) (by decide) (by unfold maxLen;omega) (by omega) SZ2.out _ rfl ?_;intro g8 cap8 w8 h1 h2 h3 h4;obtain⟨T3,P3,M3,L3,hk3⟩:=HPU.out g8 cap8 w8 h1 h2 h3;have KI3:=hide hk3;clear h1 h2 h3 h4 hk3))
     have hl3:(gs++[g]).length=gs.length+1:=by simp
     have HL3:=hide hl3
     clear CALL ROW HPU SZ2 YY KI hl3
     go_wp2
     go_roundw
     case rel=>exact⟨gs++[g],_,_,T3,P3,M3,L3,by rw[HL3.out],by rw[HL3.out];go_num,by rw[HL3.out];omega,KI3⟩
     case measure=>simp[RowKit.intOf];omega
    ·have hlt':¬(gs.length:Int)<(ks.length:Int):=by omega
     go_wp2
     go_meet
     exact⟨gs,ka,kc2,T2,P2,M2,L2,rfl,by omega,KI⟩
  obtain⟨gs,ka,kc2,T2,P2,M2,L2,rfl,hgl,KI⟩:=hcut
  clear I0
  have hgl0:0<gs.length:=by omega
  obtain⟨kg,rfl⟩:∃kg,ka=some ⟨kg,0,none⟩:=by
   obtain⟨ao,c',e,hp⟩:=own_shape KI.out.row
   obtain⟨g',rfl⟩:=hp hgl0
   injection e with e
   exact⟨g',e⟩
  have ZG:Hid (ZBk wc kg gs):=by
   obtain⟨cs,h5⟩:=own_ty KI.out.row kg rfl
   refine⟨cs,h5,fun i hi=>?_⟩
   have:=World.ownsRow.cellAt KI.out.row i (by omega)
   rw[cell_of_row wc kg i _ _ _ h5,zC_get gs hi] at this
   exact this
  have hfew:T2.length≤4*tr n:=by
   have h1:=KI.out.few
   have h2:gs.length*tr n≤4*tr n:=Nat.mul_le_mul_right _ (by omega)
   omega
  have MK:=hide (mkD_any (kc:=kc2) (l0:=lf) KI.out.st ZG.out (KI.out.np kg rfl) (cp_may HNO.out KI.out.st.ok HFR.out HN.out hgl (fun j hj=>KI.out.rep j hj)) (by
   have h3:D.length+tr (n+1)≤1649267441664:=HSZ.out
   have h4:tr (n+1)=4*tr n+1:=rfl
   rw[List.length_append]
   omega))
  obtain⟨m0,m1,-⟩:=NBC.out wc KI.out.kp
  have HDP2:Hid (¬P2 d):=fun hp=>by
   rcases KI.out.pp d hp with hp|hp
   ·exact HP.out hp
   ·omega
  have HDL:Hid (L2.length=Ld.length):=by unfold Hid;rw[KI.out.dok.1,HDK.out.1]
  have HGL:=hide hgl
  have HFEW:=hide hfew
  clear hgl hfew
  go_upto_region 10 with(go_at_call 93;refine MK.out.mono ?_;clear MK;rintro e w5 ⟨g,D',P',M',rfl,mk,st,kp,pp,mm⟩;have MKP:=hide mk;have ST5:=hide st;have KP5:=hide kp;have PP5:=hide pp;have MM5:=hide mm;have RZ5:=(KI.out.dn.kept kp (fun hm=>HDP2.out (KI.out.st.mp hm)));have z5:=RZ5.cell (k:=f) (by have:=HDL.out;omega);have f5:=RZ5.fro f;clear mk st kp pp mm)
  clear z5 f5 m0 m1
  have RZ6:=RZ5.set f g
  have z6:=RZ6.cell (k:=f) (by rw[List.length_set];have:=HDL.out;omega)
  rw[getD_here (by have:=HDL.out;omega)] at z6
  have K6:Hid (Kept (fun k=>k=d) w5 (w5.setCell ⟨d,f,none⟩ (.int .i64 g))):=(Kept.refl (fun k=>k=d) w5).setCell (p:=⟨d,f,none⟩) rfl _
  have HRZ6:=hide RZ6
  clear RZ5 RZ6
  generalize w5.setCell ⟨d,f,none⟩ (.int .i64 g)=w6 at *
  go_wp2
  go_ret
  have hgl:=HGL.out
  have hfew:=HFEW.out
  have hdP2:=HDP2.out
  obtain⟨T1,eT,hT1⟩:=mk_app MKP.out
  have hrep:=cp_make HNO.out KI.out.st.ok (by omega) HFR.out HN.out hgl (fun j hj=>KI.out.rep j hj) MKP.out
  have eA:D++(T2++T1)=D':=by rw[eT,List.append_assoc]
  have hkg1:w1.heap.size≤kg:=(World.ownsRow.lt KI.out.row kg rfl).1
  have hwz:w.heap.size≤w1.heap.size:=X1.out.size
  have hz5:=KI.out.kp.size
  have hdP':¬P' d:=fun hp=>by
   rcases PP5.out d hp with hp|hp|hp
   ·exact hdP2 hp
   ·omega
   ·omega
  refine⟨g,T2++T1,P',M',L2.set f g,rfl,by rw[eA];exact ST5.out.kept K6.out (fun k hp hF=>hdP' (by rw[←hF];exact hp)),HRZ6.out,by rw[eA];exact(by rw[eT];exact KI.out.dok.app KI.out.st.ok:CpOk S N D' L2).set (by omega) hrep,by rw[eA];exact hrep,?_,fun k hp=>?_,fun k hm=>?_,?_⟩
  ·have k1:Kept (fun k=>M k∨k=d) w w1:=Kept.of_below X1.out
   have k2:Kept (fun k=>M k∨k=d) w wc:=k1.trans KI.out.kp
   have k3:Kept (fun k=>M k∨k=d) w w5:=k2.trans_new KP5.out (fun k hk hF=>by
    rcases KI.out.mm k hF with h1|h1
    ·exact .inl h1
    ·omega)
   exact k3.trans_new K6.out (fun k _ hF=>.inr hF)
  ·rcases PP5.out k hp with hp|hp|hp
   ·rcases KI.out.pp k hp with hp|hp
    ·exact .inl hp
    ·exact .inr (by omega)
   ·exact .inr (by omega)
   ·exact .inr (by omega)
  ·rcases MM5.out k hm with hm|hm
   ·rcases KI.out.mm k hm with hm|hm
    ·exact .inl hm
    ·exact .inr (by omega)
   ·exact .inr (by omega)
  ·rw[List.length_append]
   show _≤4*tr n+1
   omega
end
theorem ZAt.kept {F:Nat→Prop} {w w':World} {ao:Option Addr} {L:List Int} (h:ZAt w ao L) (hk:Kept F w w') (hF:∀b,ao.map Addr.block=some b→¬F b):ZAt w' ao L:=by
 rcases h with h|⟨b,off,e,h1,h2⟩
 ·exact .inl h
 ·exact .inr ⟨b,off,e,Nat.lt_of_lt_of_le h1 hk.size,fun i hi=>(hk.cell (p:=⟨b,off+i,none⟩) h1 (hF b (by rw[e];rfl))).trans (h2 i hi)⟩
theorem ZAt.lt {w:World} {ao:Option Addr} {L:List Int} {b:Nat} (h:ZAt w ao L) (hn:L≠[]) (hb:ao.map Addr.block=some b):b<w.heap.size:=by
 rcases h with h|⟨b',off,e,h1,_⟩
 ·exact absurd h hn
 ·rw[e] at hb
  cases hb
  exact h1
section
variable {S:List Int} {N D:List Nd} {M0:Int} {Q P M:Nat→Prop} {x s:Nat} {rs:List Int} {w:World}
def CdL (S:List Int) (N:List Nd) (s:Nat) (rs:List Int) (D:List Nd) (P M:Nat→Prop) (w:World) (e:Ending) (w':World):Prop:=∃oa oc outs T P' M',e=.returned (.slice oa rs.length oc)∧outs.length=rs.length∧w'.ownsRow w.heap.size 3 1 (.slice oa rs.length oc) rs.length (zC outs)∧(∀k,(Value.slice oa rs.length oc).ownBlock=some k→¬P' k)∧St w' s S (D++T) P' M'∧(∀j,j<rs.length→RepN S N (D++T) (rs.getD j 0) (outs.getD j 0))∧Kept M w w'∧(∀k,P' k→P k∨w.heap.size≤k)∧(∀k,M' k→M k∨w.heap.size≤k)∧T.length≤rs.length*tr S.length
set_option maxRecDepth 100000 in
set_option maxHeartbeats 4000000 in
theorem copied_any (h4:∀x∈S,x≤4) (ao:Option Addr) (cap:Nat) (hA:RA w x S M0 N Q) (hQ:∀k,Q k→¬P k) (h:St w s S D P M) (hz:ZAt w ao rs) (hzP:∀b,ao.map Addr.block=some b→rs≠[]→¬P b) (hrs:∀f∈rs,hasR N f) (hl:rs.length≤268435456) (hsz:D.length+rs.length*tr S.length≤1649267441664):
 Calls Try.prog 78 #[.pointer (some ⟨x,0,none⟩),.pointer (some ⟨s,0,none⟩),.slice ao rs.length cap] w fun e w'=>CdL S N s rs D P M w e w':=by
 obtain⟨i3,hi3,hz30,hz31,hz32⟩:=info_parts Try.info3
 have hNl:N.length≤8192:=by have h1:=hA.ok.few;have h2:=hA.m8;omega
 have LN:=hide hA.len
 have ew:IntKind.i64.wrap ((N.length:Int)+2)=((N.length+2:Nat):Int):=by simp[IntKind.wrap,IntKind.bits,IntKind.signed];omega
 obtain⟨nn,hnn⟩:∃nn,N.length+2=nn:=⟨_,rfl⟩
 rw[hnn] at ew
 have hmk:=make_nums nn (by omega)
 have HA:=hide hA
 have HQ:=hide hQ
 have H:=hide h
 have HZ:=hide hz
 have HZP:=hide hzP
 have HRS:=hide hrs
 have HSZ:=hide hsz
 have HNN:=hide hnn
 have hnn1:(1:Int)<(nn:Int):=by omega
 have X1:Hid (Below w.heap.size w (w.alloc (.cells (zC (List.replicate nn 0)).toArray 3))):=al (Below.refl _ _) _
 have Z1:=hide (RwZ.made w (List.replicate nn 0))
 have CP:Hid (CpOk S N D ((List.replicate nn 0).set 1 1)):=by
  refine⟨by simp[hnn],?_,getD_here (by simp;omega),fun f hf h0=>?_⟩
  ·rw[getD_else (by decide),List.getD_eq_getElem?_getD,List.getElem?_replicate,if_pos (by omega)];rfl
  ·by_cases e:f=1
   ·subst e
    rw[getD_here (by simp;omega)]
    exact⟨⟨by omega,by omega⟩,fun p _=>by
     show sayR D p 1=sayR N p 1
     rw[sayR_low (by omega),sayR_low (by omega)]⟩
   ·rw[getD_else (fun e2=>e e2.symm),List.getD_eq_getElem?_getD,List.getElem?_replicate] at h0
    split at h0<;>simp at h0
 clear hA hQ h hz hzP hrs hsz hnn
 go_enter Try.func78,Try.ntmps78
 go_upto_region 2 with(go_at_call 26;refine LN.out.mono ?_;rintro e w7 ⟨rfl,h⟩;rw[h];clear h)
 clear LN ew hmk
 generalize w.alloc (.cells (zC (List.replicate nn 0)).toArray 3)=w1 at *
 obtain⟨d,hd⟩:∃d,w.heap.size=d:=⟨_,rfl⟩
 have HD:=hide hd
 rw[hd] at Z1 ⊢
 clear hd
 have c1:=Z1.out.cell (k:=1) (by simp;omega)
 have f1:=Z1.out.fro 1
 have Z2:=hide (Z1.out.set 1 1)
 have X2:Hid (Below w.heap.size w (w1.setCell ⟨d,1,none⟩ (.int .i64 1))):=X1.out.setCell (by rw[←HD.out];exact Nat.le_refl _) _
 go_upto_block 0 with fail
 clear c1 f1 Z1 X1
 generalize w1.setCell ⟨d,1,none⟩ (.int .i64 1)=w2 at *
 have I0:Hid (CpI S N s d D P M S.length rs w2 w2 (.slice none 0 0) [] [] P M ((List.replicate nn 0).set 1 1)):=⟨by rw[List.append_nil];exact H.out.below X2.out,Z2.out,by rw[List.append_nil];exact CP.out,World.ownsRow_nil _ _ _ _,fun k hk=>(by cases hk),Kept.refl _ _,fun k hk=>.inl hk,fun k hk=>.inl hk,Nat.zero_le _,fun j hj=>(by cases hj)⟩
 have hd1:d<w2.heap.size:=Z2.out.lt
 have HLL:Hid (((List.replicate nn 0).set 1 1:List Int).length=nn):=by unfold Hid;simp
 clear Z2
 go_wp2
 go_loopw [8,9] (fun v8 v9 wr=>∃(gs:List Int) (ka:Option Addr) (kc2:Nat) (T2:List Nd) (P2 M2:Nat→Prop) (L2:List Int),v8=.slice ka gs.length kc2∧v9=.int .i64 (gs.length:Int)∧gs.length≤rs.length∧Hid (CpI S N s d D P M S.length rs w2 wr (.slice ka gs.length kc2) gs T2 P2 M2 L2)) (fun _ v _=>rs.length-(RowKit.intOf v).toNat)
 case atStart=>exact⟨[],none,0,[],P,M,_,rfl,rfl,Nat.zero_le _,I0⟩
 case round=>
  obtain⟨gs,ka,kc2,T2,P2,M2,L2,rfl,rfl,hgk,KI⟩:=hrel
  clear I0
  by_cases hlt:gs.length<rs.length
  ·have hlt':(gs.length:Int)<(rs.length:Int):=by omega
   have hwd:w.heap.size=d:=HD.out
   obtain⟨zb,zo,hza,hzb,q1⟩:=((HZ.out.below X2.out).kept KI.out.kp (fun b hb hF=>by
    have h0:rs≠[]:=fun e=>by rw[e] at hlt;simp at hlt
    have h2:=HZ.out.lt h0 hb
    have h1:=HZP.out b hb h0
    rcases hF with hF|hF
    ·exact h1 (H.out.mp hF)
    ·omega)).get hlt
   subst hza
   have hkj:hasR N (rs.getD gs.length 0):=by
    rw[List.getD_eq_getElem?_getD,List.getElem?_eq_getElem hlt]
    exact HRS.out _ (List.getElem_mem hlt)
   obtain⟨fj,hfj⟩:∃fj:Nat,rs.getD gs.length 0=(fj:Int):=⟨(rs.getD gs.length 0).toNat,by have:=hkj.1;omega⟩
   rw[hfj] at q1 hkj
   have hdl:L2.length=nn:=by rw[KI.out.dok.1];exact HNN.out
   have CALL:Hid (Calls Try.prog 85 #[.pointer (some ⟨x,0,none⟩),.pointer (some ⟨s,0,none⟩),.int .i64 (fj:Int),.slice (some ⟨d,0,none⟩) nn nn] wr fun e w'=>CpL S N s d (rs.getD gs.length 0) (D++T2) P2 M2 S.length wr e w'):=by
    have hz1:=X2.out.size
    have hz2:=KI.out.kp.size
    have:=copy1_any h4 S.length wr (D++T2) P2 M2 L2 fj ((HA.out.below X2.out).kept KI.out.kp (fun k hk hF=>by
     have h1:=HA.out.plt hk
     rcases hF with hF|hF
     ·exact HQ.out k hk (H.out.mp hF)
     ·omega)) (fun k hk=>by
     have h1:=HA.out.plt hk
     refine⟨fun hp=>?_,by omega,by omega⟩
     rcases KI.out.pp k hp with hp|hp
     ·exact HQ.out k hk hp
     ·omega) KI.out.st KI.out.dn (fun hp=>by
     rcases KI.out.pp d hp with hp|hp
     ·have:=H.out.plt hp;omega
     ·omega) KI.out.dok (by have:=hkj.2;omega) (by omega) (by
     have h1:=KI.out.few
     have h2:(gs.length+1)*tr S.length≤rs.length*tr S.length:=Nat.mul_le_mul_right _ hlt
     rw[Nat.add_mul,Nat.one_mul] at h2
     have h3:=HSZ.out
     rw[List.length_append]
     omega)
    rw[hdl] at this
    rw[hfj]
    exact this
   clear hfj hkj hdl hwd
   go_upto_region 6 with(first
    |(go_at_call 85;refine CALL.out.mono ?_;rintro e w3 hx;obtain⟨g,rfl,hrow,hz2,hpush⟩:=KI.out.push hd1 hx;have YY:Hid (Below w3.heap.size w3 (w3.alloc (.cells #[.int .i64 g] 3))):=(al (Below.refl _ _) _);have ROW:=hide (own_below hrow YY.out);have HPU:=hide (hpush YY.out);have SZ2:Hid (w2.heap.size≤(w3.alloc (.cells #[.int .i64 g] 3)).heap.size):=Nat.le_trans hz2 YY.out.size;clear hx hrow hz2 hpush)
    |(at_builtin;refine wpList_append_lies _ rfl (.tmp 22) (.tmp 31) 22 rfl w2.heap.size 3 i3 (.int .i64 0) 1 8 Try.underlying22 hi3 hz30 hz31 hz32 rfl (by decide) _ gs.length (zC gs) rfl ROW.out ⟨w3.heap.size,0,none⟩ 1 1 [.int .i64 g] rfl rfl (one_new w3 _ _) (by simp[Value.oneCell']) (by decide) (by unfold maxLen;omega) (by omega) SZ2.out _ rfl ?_;intro g8 cap8 w8 h1 h2 h3 h4;obtain⟨T3,P3,M3,L3,hk3⟩:=HPU.out g8 cap8 w8 h1 h2 h3;have KI3:=hide hk3;clear h1 h2 h3 h4 hk3))
   have hl3:(gs++[g]).length=gs.length+1:=by simp
   have HL3:=hide hl3
   clear CALL ROW HPU SZ2 YY KI hl3
   go_wp2
   go_roundw
   case rel=>exact⟨gs++[g],_,_,T3,P3,M3,L3,by rw[HL3.out],by rw[HL3.out];go_num,by rw[HL3.out];omega,KI3⟩
   case measure=>simp[RowKit.intOf];omega
  ·have hlt':¬(gs.length:Int)<(rs.length:Int):=by omega
   have HE:Hid (gs.length=rs.length):=by unfold Hid;omega
   go_wp2
   go_ret
   have hz2:=X2.out.size
   have hd0:=HD.out
   refine⟨ka,kc2,gs,T2,P2,M2,by rw[HE.out];rfl,HE.out,by rw[←HE.out];exact own_mono KI.out.row hz2,by rw[←HE.out];exact KI.out.np,KI.out.st,fun j hj=>KI.out.rep j (by rw[HE.out];exact hj),(Kept.of_below X2.out).trans_new KI.out.kp (fun k hk hF=>?_),fun k hp=>?_,fun k hm=>?_,by rw[←HE.out];exact KI.out.few⟩
   ·rcases hF with hF|hF
    ·exact hF
    ·omega
   ·rcases KI.out.pp k hp with hp|hp
    ·exact .inl hp
    ·exact .inr (by omega)
   ·rcases KI.out.mm k hm with hm|hm
    ·exact .inl hm
    ·exact .inr (by omega)
end
end Go.Proofs.Ytnddhkhmbjeefaa

