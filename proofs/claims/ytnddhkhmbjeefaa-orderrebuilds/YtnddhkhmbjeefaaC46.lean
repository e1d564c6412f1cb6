/-
  The document's of by its contract. Conditions: as the store's.
-/
import Derived.Deep.DeepCutAuto
import Derived.Deep.CutBlock
import Derived.Test.YtnddhkhmbjeefaaC45
namespace Go.Proofs.Ytnddhkhmbjeefaa
open Go.RowKit Go.Lib Go.Maps
def atLen (w:World) (b:Nat):Nat:=match w.cell? ⟨b,5,none⟩ with
 |some (.slice _ n _)=>n
 |_=>0
section
variable {S o:List Int} {most:Int} {b s sg sc oc:Nat} {oo:Option Addr}
theorem OfX.more {na bg:Nat} {sz od ov av v':Value} {w w2:World} {D N:List Nd} {R2:List ND} {AT:List Int} {PS MS QS QM P M:Nat→Prop} (h:OfX S most b s na sz od w D bg false R2.length (ndC R2) ov av AT PS MS QS QM P M) (hv:OfV S o most w D N R2 AT P M) (hl:AT.length<D.length+2) (k2:Kept (fun k=>av.ownBlock=some k) w w2) (hr:w2.ownsRow 0 3 1 v' (AT++[0]).length (zC (AT++[0]))) (hn:∀k,v'.ownBlock=some k→av.ownBlock=some k∨w.heap.size≤k):
 ∃P2 M2,OfX S most b s na sz od (w2.setCell ⟨b,5,none⟩ v') D bg false R2.length (ndC R2) ov v' (AT++[0]) PS MS (fun k=>QS k∨v'.ownBlock=some k) (fun k=>QM k∨v'.ownBlock=some k) P2 M2∧OfV S o most (w2.setCell ⟨b,5,none⟩ v') D N R2 (AT++[0]) P2 M2∧Kept M w (w2.setCell ⟨b,5,none⟩ v')∧(∀k,P2 k→P k∨w.heap.size≤k)∧(∀k,M2 k→M k∨w.heap.size≤k):=by
 obtain⟨a1,a2⟩:=h.bu.setA k2 hr hn
 have kM:Kept M w (w2.setCell ⟨b,5,none⟩ v'):=a2.mono (fun k hk=>by
  rcases hk with hk|hk
  ·exact h.qm k (h.bu.qa k hk)
  ·rw[hk];exact h.qm b h.bu.qb)
 have hz:=a2.size
 have own:∀k,v'.ownBlock=some k→(QM k∨w.heap.size≤k)∧k<(w2.setCell ⟨b,5,none⟩ v').heap.size:=fun k hk=>⟨(hn k hk).imp (h.bu.qa k) id,a1.qlt k (.inr hk)⟩
 refine⟨fun k=>P k∨v'.ownBlock=some k,fun k=>M k∨v'.ownBlock=some k,⟨h.st.kept a2 (fun k hp hF=>?_),a1,fun k hp hq=>?_,fun k hp=>.inl (h.ps k hp),fun k hq=>hq.imp (h.qs k) id,fun k hm=>.inl (h.ms k hm),fun k hm=>hm.imp (h.qm k) id,fun k hm=>hm.imp (h.mp k) id,fun k hm=>?_,fun k hp=>?_,by have:=h.na;rw[List.length_append];omega⟩,⟨hv.nd,hv.ok,hv.at'.more hl,fun y hy=>⟨(hv.kid y hy).1.kept kM (hv.kid y hy).2.2,.inl (hv.kid y hy).2.1,fun hm=>?_⟩⟩,kM,fun k hp=>?_,fun k hm=>?_⟩
 ·rcases hF with hF|hF
  ·exact h.pq k hp (h.bu.qp k (h.bu.qa k hF))
  ·rw[hF] at hp;exact h.pq b hp (h.bu.qp b h.bu.qb)
 ·rcases hq with hq|hq
  ·exact h.pq k hp hq
  ·rcases (own k hq).1 with h5|h5
   ·exact h.pq k hp (h.bu.qp k h5)
   ·have:=h.st.plt hp;omega
 ·rcases hm with hm|hm
  ·exact(h.mc k hm).imp id .inl
  ·exact .inr (.inr hm)
 ·rcases hp with hp|hp
  ·exact Nat.lt_of_lt_of_le (h.lt k hp) hz
  ·exact(own k hp).2
 ·rcases hm with hm|hm
  ·exact(hv.kid y hy).2.2 hm
  ·rcases (own _ hm).1 with h5|h5
   ·exact(hv.kid y hy).2.2 (h.qm _ h5)
   ·have:=h.lt _ (hv.kid y hy).2.1;omega
 ·rcases hp with hp|hp
  ·exact .inl hp
  ·rcases (own k hp).1 with h5|h5
   ·exact .inl (h.mp k (h.qm k h5))
   ·exact .inr h5
 ·rcases hm with hm|hm
  ·exact .inl hm
  ·rcases (own k hm).1 with h5|h5
   ·exact .inl (h.qm k h5)
   ·exact .inr h5
theorem OfX.setG {na bg n2:Nat} {sz od ov av:Value} {w:World} {D:List Nd} {xs:List Value} {AT:List Int} {ovr:Bool} {PS MS QS QM P M:Nat→Prop} (h:OfX S most b s na sz od w D bg ovr n2 xs ov av AT PS MS QS QM P M) (g:Nat):OfX S most b s na sz od (w.setCell ⟨b,6,none⟩ (.int .i64 (g:Int))) D g ovr n2 xs ov av AT PS MS QS QM P M∧Kept (fun k=>k=b) w (w.setCell ⟨b,6,none⟩ (.int .i64 (g:Int))):=by
 obtain⟨a1,a2⟩:=h.bu.setG (g:Int)
 exact⟨⟨h.st.kept a2 (fun k hp hF=>h.pq b (by rw[←hF];exact hp) (h.bu.qp b h.bu.qb)),a1,h.pq,h.ps,h.qs,h.ms,h.qm,h.mp,h.mc,fun k hp=>Nat.lt_of_lt_of_le (h.lt k hp) a2.size,h.na⟩,a2⟩
theorem OfX.setO {na bg n2:Nat} {sz od ov av:Value} {w:World} {D:List Nd} {xs:List Value} {AT:List Int} {ovr:Bool} {PS MS QS QM P M:Nat→Prop} (h:OfX S most b s na sz od w D bg ovr n2 xs ov av AT PS MS QS QM P M) (g:Bool):OfX S most b s na sz od (w.setCell ⟨b,7,none⟩ (.bool g)) D bg g n2 xs ov av AT PS MS QS QM P M∧Kept (fun k=>k=b) w (w.setCell ⟨b,7,none⟩ (.bool g)):=by
 obtain⟨a1,a2⟩:=h.bu.setO g
 exact⟨⟨h.st.kept a2 (fun k hp hF=>h.pq b (by rw[←hF];exact hp) (h.bu.qp b h.bu.qb)),a1,h.pq,h.ps,h.qs,h.ms,h.qm,h.mp,h.mc,fun k hp=>Nat.lt_of_lt_of_le (h.lt k hp) a2.size,h.na⟩,a2⟩
theorem OfV.keptM {w w':World} {D N:List Nd} {R2:List ND} {AT:List Int} {P M F:Nat→Prop} (h:OfV S o most w D N R2 AT P M) (hk:Kept F w w') (hF:∀k,F k→M k):OfV S o most w' D N R2 AT P M:=
 ⟨h.nd,h.ok,h.at',fun y hy=>⟨(h.kid y hy).1.kept hk (fun hf=>(h.kid y hy).2.2 (hF _ hf)),(h.kid y hy).2⟩⟩
theorem OfX.putN {na bg n2:Nat} {ka:Option Addr} {sz od ov av v':Value} {w w2:World} {D:List Nd} {xs xs':List Value} {AT:List Int} {ovr:Bool} {PS MS QS QM P M:Nat→Prop} (h:OfX S most b s na sz od w D bg ovr n2 xs ov av AT PS MS QS QM P M) (hkg:∀a,ka=some a→a.block<w.heap.size∧¬P a.block) (k2:Kept (fun k=>ov.ownBlock=some k) w w2) (hr:w2.ownsRow 0 86 2 v' (n2+1) xs') (hn:∀k,v'.ownBlock=some k→ov.ownBlock=some k∨w.heap.size≤k):
 OfX S most b s na sz od (w2.setCell ⟨b,4,none⟩ v') D bg ovr (n2+1) xs' v' av AT PS MS (fun k=>QS k∨v'.ownBlock=some k) (fun k=>QM k∨v'.ownBlock=some k) (fun k=>P k∨v'.ownBlock=some k∨∃a,ka=some a∧k=a.block) (fun k=>M k∨v'.ownBlock=some k)∧Kept M w (w2.setCell ⟨b,4,none⟩ v')∧(∀k,v'.ownBlock=some k→M k∨w.heap.size≤k):=by
 obtain⟨a1,a2⟩:=h.bu.setN k2 hr hn
 have kM:Kept M w (w2.setCell ⟨b,4,none⟩ v'):=a2.mono (fun k hk=>by
  rcases hk with hk|hk
  ·exact h.qm k (h.bu.qo k hk)
  ·rw[hk];exact h.qm b h.bu.qb)
 have own:∀k,v'.ownBlock=some k→(QM k∨w.heap.size≤k)∧k<(w2.setCell ⟨b,4,none⟩ v').heap.size:=fun k hk=>⟨(hn k hk).imp (h.bu.qo k) id,a1.qlt k (.inr hk)⟩
 refine⟨⟨h.st.kept a2 (fun k hp hF=>?_),a1,fun k hp hq=>?_,fun k hp=>.inl (h.ps k hp),fun k hq=>hq.imp (h.qs k) .inl,fun k hm=>.inl (h.ms k hm),fun k hm=>hm.imp (h.qm k) id,fun k hm=>hm.imp (h.mp k) .inl,fun k hm=>?_,fun k hp=>?_,h.na⟩,kM,fun k hk=>(own k hk).1.imp (h.qm k) id⟩
 ·rcases hF with hF|hF
  ·exact h.pq k hp (h.bu.qp k (h.bu.qo k hF))
  ·rw[hF] at hp;exact h.pq b hp (h.bu.qp b h.bu.qb)
 ·rcases hq with hq|hq
  ·exact h.pq k hp hq
  ·rcases (own k hq).1 with h5|h5
   ·exact h.pq k hp (h.bu.qp k h5)
   ·have:=h.st.plt hp;omega
 ·rcases hm with hm|hm
  ·exact(h.mc k hm).imp id .inl
  ·exact .inr (.inr hm)
 ·rcases hp with hp|hp|⟨a,ha,hp⟩
  ·exact Nat.lt_of_lt_of_le (h.lt k hp) a2.size
  ·exact(own k hp).2
  ·rw[hp];exact Nat.lt_of_lt_of_le (hkg a ha).1 a2.size
theorem OfX.putA {na bg n2 g c:Nat} {sz od ov av:Value} {w:World} {D:List Nd} {xs:List Value} {AT:List Int} {ovr:Bool} {PS MS QS QM P M:Nat→Prop} (h:OfX S most b s na sz od w D bg ovr n2 xs ov av AT PS MS QS QM P M) (hv:av=.slice (some ⟨g,0,none⟩) AT.length c) (i:Nat) (x:Int):OfX S most b s na sz od (w.setCell ⟨g,i,none⟩ (.int .i64 x)) D bg ovr n2 xs ov av (AT.set i x) PS MS QS QM P M∧Kept (fun k=>k=g) w (w.setCell ⟨g,i,none⟩ (.int .i64 x))∧M g:=by
 obtain⟨a1,a2⟩:=h.bu.putA hv i x
 have hq:QM g:=h.bu.qa g (by rw[hv];rfl)
 exact⟨⟨h.st.kept a2 (fun k hp hF=>h.pq g (by rw[←hF];exact hp) (h.bu.qp g hq)),a1,h.pq,h.ps,h.qs,h.ms,h.qm,h.mp,h.mc,fun k hp=>Nat.lt_of_lt_of_le (h.lt k hp) a2.size,by rw[List.length_set];exact h.na⟩,a2,h.qm g hq⟩
theorem OfX.mb {na bg n2:Nat} {sz od ov av:Value} {w:World} {D:List Nd} {xs:List Value} {AT:List Int} {ovr:Bool} {PS MS QS QM P M:Nat→Prop} (h:OfX S most b s na sz od w D bg ovr n2 xs ov av AT PS MS QS QM P M):M b:=h.qm b h.bu.qb
set_option maxRecDepth 100000 in
set_option maxHeartbeats 8000000 in
theorem of_any (ho:IsOrd S o) (h4:∀x∈S,x≤4) (hm0:0≤most) (hm8:most≤8192):∀n na,OfC S o most b s na sg sc oc oo n:=by
 obtain⟨i3,hi3,hz30,hz31,hz32⟩:=info_parts Try.info3
 obtain⟨i47,hi47,hz470,hz471,hz472⟩:=info_parts Try.info47
 have low:∀na (w:World) (D N:List Nd) (bg q:Nat) (P M:Nat→Prop) (f:Nat),OfS S o most b s na (.slice (some ⟨sg,0,none⟩) S.length sc) (.slice oo o.length oc) w D N bg P M→bg=N.length+q→(bg:Int)≤most→f<D.length+2→f<2→Calls Try.prog 79 #[.pointer (some ⟨b,0,none⟩),.int .i64 (f:Int)] w fun e w'=>OfL S o most b s na (.slice (some ⟨sg,0,none⟩) S.length sc) (.slice oo o.length oc) (f:Int) D N bg q P M w e w':=by
  intro na w D N bg q P M f h hbg hbm hf h2
  have h2':(f:Int)<2:=by omega
  have FIN:Hid (∀e,e=Ending.returned (.int .i64 (f:Int))→OfL S o most b s na (.slice (some ⟨sg,0,none⟩) S.length sc) (.slice oo o.length oc) (f:Int) D N bg q P M w e w):=fun e he=>⟨(f:Int),[],P,M,bg,he,Kept.refl _ _,fun k hk=>.inl hk,fun k hk=>.inl hk,Nat.le_refl _,by omega,Nat.zero_le _,.inl ⟨N,by rw[List.append_nil];exact h,ins_rep h.okN ⟨⟨by omega,by omega⟩,fun p hp=>by
   show sayR N p (f:Int)=sayR D (ledP o p) (f:Int)
   rw[sayR_low (by omega),sayR_low (by omega)]⟩,hbg,hbm⟩⟩
  clear h hbg hbm hf
  go_enter Try.func79,Try.ntmps79
  go_wp2
  go_ret
  exact FIN.out _ rfl
 intro n
 induction n with
 |zero=>
  intro na w D N bg q P M f h hzs hPs hzo hPo hf hbg hbm hnd hsz
  refine low na w D N bg q P M f h hbg hbm hf ?_
  rcases Nat.lt_or_ge f 2 with h2|h2
  ·exact h2
  ·obtain⟨i,hi,hd,_⟩:=first_dep ho h.okD h2 hf
   exact absurd hd (hnd i hi (by omega))
 |succ n ih=>
  intro na w D N bg q P M f h hzs hPs hzo hPo hf hbg hbm hnd hsz
  by_cases h2:f<2
  ·exact low na w D N bg q P M f h hbg hbm hf h2
  clear low
  have h2':¬(f:Int)<2:=by omega
  obtain⟨zb,zo,hza,-,-⟩:=hzo.get (i:=0) (by rw[ho.len];exact h.okD.sz.ge)
  subst hza
  have H:=hide h
  have HZS:=hide hzs
  have HPS:=hide hPs
  have HZO:=hide hzo
  have HPO:=hide hPo
  have HF:=hide hf
  have HBG:=hide hbg
  have HND:=hide hnd
  have HSZ:=hide hsz
  obtain⟨c0,c1,c2,c7⟩:=h.cells
  have hsz1:D.length≤1649267441664:=by omega
  clear h hzs hPs hzo hPo hf hbg hnd hsz
  go_enter Try.func79,Try.ntmps79
  go_upto_block 0 with fail
  clear c0 c1 c2 c7
  go_cut [] (fun wx=>∃R2 ov av AT PS MS QS QM P2 M2,Hid (OfX S most b s na (.slice (some ⟨sg,0,none⟩) S.length sc) (.slice (some ⟨zb,zo,none⟩) o.length oc) wx D bg false R2.length (ndC R2) ov av AT PS MS QS QM P2 M2)∧Hid (OfV S o most wx D N R2 AT P2 M2)∧f<AT.length∧Hid (Kept M w wx∧(∀k,P2 k→P k∨w.heap.size≤k)∧∀k,M2 k→M k∨w.heap.size≤k))
  case first=>
   go_wp2
   go_loopw [] (fun wr=>∃R2 ov av AT PS MS QS QM P2 M2,Hid (OfX S most b s na (.slice (some ⟨sg,0,none⟩) S.length sc) (.slice (some ⟨zb,zo,none⟩) o.length oc) wr D bg false R2.length (ndC R2) ov av AT PS MS QS QM P2 M2)∧Hid (OfV S o most wr D N R2 AT P2 M2)∧Hid (Kept M w wr∧(∀k,P2 k→P k∨w.heap.size≤k)∧∀k,M2 k→M k∨w.heap.size≤k)) (fun wr=>f+1-atLen wr b)
   case atStart=>
    obtain⟨R2,ov,av,AT,PS,MS,QS,QM,hx,hv⟩:=H.out
    exact⟨R2,ov,av,AT,PS,MS,QS,QM,P,M,hx,hv,Kept.refl _ _,fun k hk=>.inl hk,fun k hk=>.inl hk⟩
   case round=>
    obtain⟨R2,ov,av,AT,PS,MS,QS,QM,P2,M2,HX,HV,HK⟩:=hrel
    obtain⟨ao,cap,hav,_⟩:=own_shape HX.out.bu.atr
    have c5:=HX.out.bu.cells.2.2.2.2.2.1
    rw[hav] at c5
    have HAL:Hid (atLen wr b=AT.length):=by unfold Hid atLen;rw[c5]
    have HAV:=hide hav
    clear hav
    by_cases hlt:AT.length≤f
    ·have hlt':(AT.length:Int)≤(f:Int):=by omega
     have YY:Hid (Below wr.heap.size wr (wr.alloc (.cells #[.int .i64 0] 3))):=al (Below.refl _ _) _
     have ROW:Hid ((wr.alloc (.cells #[.int .i64 0] 3)).ownsRow 0 3 1 (.slice ao AT.length cap) AT.length (zC AT)):=by
      have:=own_below HX.out.bu.atr YY.out
      rw[HAV.out] at this
      exact this
     have HBN:Hid ((Value.slice ao AT.length cap).ownBlock≠some b):=fun e=>HX.out.bu.nb.2.1 (by rw[HAV.out];exact e)
     have hff:=HF.out
     go_upto_region 4 with fail
     go_wp2_with (at_builtin;refine wpList_append_lies _ rfl (.tmp 29) (.tmp 30) 22 rfl 0 3 i3 (.int .i64 0) 1 8 Try.underlying22 hi3 hz30 hz31 hz32 rfl (by decide) _ AT.length (zC AT) rfl ROW.out ⟨wr.heap.size,0,none⟩ 1 1 [.int .i64 0] rfl rfl (one_new wr _ _) (by simp[Value.oneCell']) (by decide) (by unfold maxLen;omega) (by omega) (Nat.zero_le _) _ rfl ?_;intro g9 cap9 w9 h1 h2 h3 h4;have O9:=hide h1;have K9:=hide ((Kept.of_below (F:=fun k=>(Value.slice ao AT.length cap).ownBlock=some k) YY.out).trans_new (kept_of_grown h2) (fun _ _ h=>h));have H9:=hide h3;have hb9:=(K9.out.block b (lt_of_block HX.out.bu.blk) (fun e=>HBN.out e)).trans HX.out.bu.blk;have c9:=cell_of_row w9 b 5 _ _ _ hb9;have f9:=frozen_of_row w9 b 5 _ _ hb9;clear h1 h2 h3 h4 hb9)
     obtain⟨P3,M3,x3,v3,k3,p3,m3⟩:=HX.out.more (v':=.slice (some ⟨g9,0,none⟩) (AT.length+1) cap9) HV.out (by omega) (by rw[HAV.out];exact K9.out) (by
      have:=O9.out
      rw[show zC AT++[Value.int .i64 0]=zC (AT++[0]) by simp[zC]] at this
      rw[List.length_append,List.length_singleton]
      exact this) (fun k hk=>by
      have e:g9=k:=Option.some.inj hk
      rw[HAV.out]
      rcases H9.out with h|h
      ·exact .inl (by rw[←e];exact h)
      ·exact .inr (by rw[←e,h];exact YY.out.size))
     have HX3:=hide x3
     have HV3:=hide v3
     have hzw:=HK.out.1.size
     have HK3:Hid (Kept M w (w9.setCell ⟨b,5,none⟩ (.slice (some ⟨g9,0,none⟩) (AT.length+1) cap9))∧(∀k,P3 k→P k∨w.heap.size≤k)∧∀k,M3 k→M k∨w.heap.size≤k):=⟨HK.out.1.trans_new k3 (fun k hk hm=>by
      rcases HK.out.2.2 k hm with h|h
      ·exact h
      ·omega),fun k hp=>by
      rcases p3 k hp with h|h
      ·exact HK.out.2.1 k h
      ·exact .inr (by omega),fun k hm=>by
      rcases m3 k hm with h|h
      ·exact HK.out.2.2 k h
      ·exact .inr (by omega)⟩
     have HA3:Hid (atLen (w9.setCell ⟨b,5,none⟩ (.slice (some ⟨g9,0,none⟩) (AT.length+1) cap9)) b=AT.length+1):=by unfold Hid atLen;rw[x3.bu.cells.2.2.2.2.2.1]
     clear x3 v3 k3 p3 m3 c5 c9 f9 O9 K9 ROW YY HX HV HK
     go_roundw
     case rel=>exact⟨_,_,_,_,_,_,_,_,_,_,HX3,HV3,HK3⟩
     case measure=>
      rw[HA3.out,HAL.out]
      omega
    ·have hlt':¬(AT.length:Int)≤(f:Int):=by omega
     go_wp2
     go_meet
     exact⟨R2,ov,av,AT,PS,MS,QS,QM,P2,M2,HX,HV,by omega,HK⟩
  obtain⟨R2,ov,av,AT,PS,MS,QS,QM,P2,M2,HX,HV,hfa,HK⟩:=hcut
  generalize wc=we at *
  have hfa0:0<AT.length:=by omega
  obtain⟨ag,ac,hav⟩:∃ag ac,av=.slice (some ⟨ag,0,none⟩) AT.length ac:=by
   obtain⟨ao,cap,e,hp⟩:=own_shape HX.out.bu.atr
   obtain⟨g,rfl⟩:=hp hfa0
   exact⟨g,cap,e⟩
  subst hav
  have c5:=HX.out.bu.cells.2.2.2.2.2.1
  have a5:we.cell? ⟨ag,f,none⟩=some (.int .i64 (AT.getD f 0)):=by rw[World.ownsRow.cellAt HX.out.bu.atr f (by omega),zC_get AT hfa]
  obtain⟨v0,hv0⟩:∃v0,AT.getD f 0=v0:=⟨_,rfl⟩
  rw[hv0] at a5
  have hfa':(f:Int)<(AT.length:Int):=by omega
  by_cases hgt:0<v0
  ·have FIN:Hid (OfL S o most b s na (.slice (some ⟨sg,0,none⟩) S.length sc) (.slice (some ⟨zb,zo,none⟩) o.length oc) (f:Int) D N bg q P M w (Ending.returned (.int .i64 v0)) we):=⟨v0,[],P2,M2,bg,rfl,HK.out.1,HK.out.2.1,HK.out.2.2,Nat.le_refl _,by omega,Nat.zero_le _,.inl ⟨N,by rw[List.append_nil];exact⟨R2,ov,_,AT,PS,MS,QS,QM,HX.out,HV.out⟩,ins_rep HV.out.ok (by
    rcases HV.out.at'.rep f hfa with h|⟨_,h⟩
    ·omega
    ·rw[hv0] at h;exact h),HBG.out,hbm⟩⟩
   clear hv0 HK HX HV H ih
   go_wp2
   go_ret
   exact FIN.out
  have HV0:Hid (AT.getD f 0=0):=by
   rcases HV.out.at'.rep f hfa with h|⟨h,_⟩
   ·exact h
   ·omega
  clear hv0
  have HNR:=hide (HV.out.at'.norep ho HX.out.st.ok (show 2≤f by omega) HF.out HV0.out)
  have HHD:Hid (hasR D (f:Int)):=⟨by omega,by have:=HF.out;omega⟩
  have ew:IntKind.i64.wrap ((bg:Int)+1)=((bg+1:Nat):Int):=by simp[IntKind.wrap,IntKind.bits,IntKind.signed];omega
  have c6:=HX.out.bu.cells.2.2.2.2.2.2.1
  have f6:=HX.out.bu.fro 6
  have xk7:=HX.out.setG (bg+1)
  rw[show((bg+1:Nat):Int)=(bg:Int)+1 by omega] at xk7 ew
  obtain⟨x7,k7⟩:=xk7
  have HX7:=hide x7
  have K7:=hide k7
  clear x7 k7
  go_upto_region 8 with fail
  clear c5 a5 c6 f6 ew
  have hmb:M2 b:=HX.out.mb
  have HV7:=hide (HV.out.keptM K7.out (fun k hk=>by rw[hk];exact hmb))
  have HK7:Hid (Kept M w (we.setCell ⟨b,6,none⟩ (.int .i64 ((bg:Int)+1)))):=HK.out.1.trans_new K7.out (fun k hk hF=>by
   rcases HK.out.2.2 b hmb with h|h
   ·rw[hF];exact h
   ·omega)
  have HMB:=hide hmb
  have HWZ:Hid (w.heap.size≤we.heap.size):=HK.out.1.size
  clear HX HV K7 hmb
  generalize we.setCell ⟨b,6,none⟩ (.int .i64 ((bg:Int)+1))=w7 at *
  have HG0:Hid (Hang (ledS S o) (newF o D (f:Int)) 0):=hang_new ho (say0 HX7.out.st.ok HHD.out) 0 (Nat.zero_le _) (fun k _ h=>absurd h (by omega))
  have XD:Hid (Below w7.heap.size w7 w7.drew):=(Below.refl _ w7).drew
  refine wp_unt (S:=fun V=>V=w7.drew) 8 (by kernel_rfl) ?_
  generalize w7.drew=w8 at *
  have HX8:=hide (HX7.out.kept (Kept.of_below (F:=fun _=>False) XD.out) (fun _ _ h=>h))
  have HV8:=hide (HV7.out.kept (Kept.of_below (F:=fun _=>False) XD.out) (fun _ _ h=>h))
  have HK8:Hid (Kept M w w8):=HK7.out.trans (Kept.of_below XD.out)
  clear HX7 HV7 HK7 XD
  obtain⟨-,-,-,c3,-,-,c6,-⟩:=HX8.out.bu.cells
  rw[show((bg+1:Nat):Int)=(bg:Int)+1 by omega] at c6
  refine UntH.tk 0 rfl 56 rfl (fun w' hw'=>by subst hw';go_simp;first|done|rfl) ?_
  refine UntH.tk 1 rfl 57 rfl (fun w' hw'=>by subst hw';go_simp;first|done|rfl) ?_
  refine UntH.tk 2 rfl 58 rfl (fun w' hw'=>by subst hw';go_simp;first|done|rfl) ?_
  refine UntH.tk 3 rfl 59 rfl (fun w' hw'=>by subst hw';go_simp;first|done|rfl) ?_
  refine UntH.tk 4 rfl 60 rfl (fun w' hw'=>by subst hw';go_simp;first|done|rfl) ?_
  refine UntH.tk 5 rfl 61 rfl (fun w' hw'=>by subst hw';go_simp;first|done|rfl) ?_
  refine UntH.tk 6 rfl 62 rfl (fun w' hw'=>by subst hw';go_simp;first|done|rfl) ?_
  refine UntH.tk 7 rfl 63 rfl (fun w' hw'=>by subst hw';go_simp;first|done|rfl) ?_
  try simp only[Act.put,List.setIfInBounds_toArray,List.set_cons_zero,List.set_cons_succ]
  refine UntH.last (by kernel_rfl) rfl (by kernel_rfl) (by kernel_rfl) (fun K hK=>?_)
  go_simp
  refine hK _ _ ?_
  clear hK K c3 c6
  by_cases hov:most<((bg+1:Nat):Int)
  ·have HRN:Hid (R2.length=N.length):=by unfold Hid;rw[←HV8.out.nd,List.length_map]
   have HOV:Hid (OverP (ledS S o) most q N (newF o D (f:Int))):=OverP.here HV8.out.ok (Nat.zero_le _) HG0.out HNR.out (by have:=HBG.out;omega)
   have hov2:most<(bg:Int)+1:=by omega
   have c7:=HX8.out.bu.cells.2.2.2.2.2.2.2
   have f7:=HX8.out.bu.fro 7
   obtain⟨x9,k9⟩:=HX8.out.setO true
   have FIN:Hid (OfL S o most b s na (.slice (some ⟨sg,0,none⟩) S.length sc) (.slice (some ⟨zb,zo,none⟩) o.length oc) (f:Int) D N bg q P M w (Ending.returned (.int .i64 0)) (w8.setCell ⟨b,7,none⟩ (.bool true))):=⟨0,[],P2,M2,bg+1,rfl,HK8.out.trans_new k9 (fun k hk hF=>by
    rcases HK.out.2.2 b HMB.out with h|h
    ·rw[hF];exact h
    ·omega),HK.out.2.1,HK.out.2.2,by omega,by omega,Nat.zero_le _,.inr ⟨by rw[List.append_nil];exact⟨_,_,_,_,_,_,_,_,_,x9,by have:=HRN.out;have:=HBG.out;omega⟩,HOV.out⟩⟩
   clear x9 k9 HK HK8 HX8 HV8 HOV ih H HWZ
   go_wp2
   go_ret
   exact FIN.out
  have hov':¬most<(bg:Int)+1:=by omega
  have hov2:¬most<((bg+1:Nat):Int):=hov
  obtain⟨i0,hi0,hdep,hno⟩:=first_dep ho HX8.out.st.ok (show 2≤f by omega) HF.out
  have hin:¬i0+(n+1)<o.length:=fun h=>HND.out i0 hi0 h hdep
  have HE:Hid (OfE S o most D N f i0):=⟨ho,HX8.out.st.ok,HV8.out.ok,HF.out,hi0,hang_new ho (say0 HX8.out.st.ok HHD.out) i0 (by omega) hno,asks_new ho (say0 HX8.out.st.ok HHD.out) hi0 hdep,HNR.out⟩
  have CEL:Hid (∀W,Kept M w W→ZAt W (some ⟨zb,zo,none⟩) o∧ZBk W sg S):=fun W hW=>⟨HZO.out.kept hW (fun k hk hm=>HPO.out k hk (H.out.mp hm)),HZS.out.kept hW (fun hm=>HPS.out (H.out.mp hm))⟩
  have LV:=hide (levD_any HX8.out.st HX8.out.bu (CEL.out w8 HK8.out).1 ho HF.out hsz1 hi0 hdep hno)
  have HNO:=hide hno
  clear hdep hno hov
  go_upto_region 12 with(go_at_call 86;refine LV.out.mono ?_;clear LV;rintro e w9 ⟨rfl,x9⟩;have X9:=hide x9;clear x9)
  have HX9:=hide (HX8.out.kept (Kept.of_below (F:=fun _=>False) X9.out) (fun _ _ h=>h))
  have HV9:=hide (HV8.out.kept (Kept.of_below (F:=fun _=>False) X9.out) (fun _ _ h=>h))
  have HK9:Hid (Kept M w w9):=HK8.out.trans (Kept.of_below X9.out)
  have HW9:Hid (w.heap.size≤w9.heap.size):=HK9.out.size
  have CEL9:Hid (∀W,Kept M2 w9 W→ZAt W (some ⟨zb,zo,none⟩) o∧ZBk W sg S):=fun W hW=>CEL.out W (HK9.out.trans_new hW (fun k hk hm=>by
   rcases HK.out.2.2 k hm with h|h
   ·exact h
   ·omega))
  clear HX8 HV8 HK8 X9
  obtain⟨lv,hlv⟩:∃lv:Nat,o[i0]=(lv:Int):=⟨(o[i0]).toNat,by have:=(ho.rng _ (List.getElem_mem hi0)).1;omega⟩
  have HLV:=hide hlv
  have hlS:lv<S.length:=by have:=(ho.rng _ (List.getElem_mem hi0)).2;omega
  obtain⟨sv,hsv⟩:∃sv:Nat,S.getD lv 0=(sv:Int):=⟨(S.getD lv 0).toNat,by have:=(HX9.out.st.ok.sz.each _ (List.getElem_mem hlS)).1;rw[List.getD_eq_getElem?_getD,List.getElem?_eq_getElem hlS];show S[lv]=((S[lv]).toNat:Int);omega⟩
  have HSV:=hide hsv
  have HSW:Hid ((ledS S o).getD i0 0=(sv:Int)∧sv≤4∧1≤sv):=by
   have h1:=HX9.out.st.ok.sz.each _ (List.getElem_mem hlS)
   have h2:=h4 _ (List.getElem_mem hlS)
   have h3:S[lv]=(sv:Int):=by rw[←hsv,List.getD_eq_getElem?_getD,List.getElem?_eq_getElem hlS];rfl
   refine⟨?_,by omega,by omega⟩
   rw[ledS_at (List.getElem?_eq_getElem hi0),hlv]
   unfold szL
   rw[Int.toNat_natCast]
   exact hsv
  have hsv4:=HSW.out.2.1
  clear hlv hsv
  have I0:Hid (KbI S o most b s (max na (f+1)) (.slice (some ⟨sg,0,none⟩) S.length sc) (.slice (some ⟨zb,zo,none⟩) o.length oc) D N f i0 (bg+1) q P2 M2 w9 w9 (.slice none 0 0) [] 0 [] P2 M2 (bg+1)):=⟨World.ownsRow_nil _ _ _ _,fun k hk=>(by cases hk),Kept.refl _ _,fun k hk=>.inl hk,fun k hk=>.inl hk,Nat.le_refl _,by omega,Nat.zero_le _,Nat.le_refl _,.inl ⟨N,by rw[List.append_nil];exact⟨R2,ov,_,AT,PS,MS,QS,QM,⟨HX9.out.st,HX9.out.bu,HX9.out.pq,HX9.out.ps,HX9.out.qs,HX9.out.ms,HX9.out.qm,HX9.out.mp,HX9.out.mc,HX9.out.lt,by have:=HX9.out.na;omega⟩,HV9.out⟩,rfl,rfl,by have:=HBG.out;omega,by omega⟩⟩
  clear HX9 HV9 H
  go_upto_block 2 with fail
  go_cut [6] (fun v6 wx=>∃gs ka kc2 c T3 P3 M3 b3,v6=.slice ka (List.length gs) kc2∧Hid (KbI S o most b s (max na (f+1)) (.slice (some ⟨sg,0,none⟩) S.length sc) (.slice (some ⟨zb,zo,none⟩) o.length oc) D N f i0 (bg+1) q P2 M2 w9 wx (.slice ka gs.length kc2) gs c T3 P3 M3 b3)∧Hid (c=sv∨(c≤sv∧OfD S most b s (max na (f+1)) (.slice (some ⟨sg,0,none⟩) S.length sc) (.slice (some ⟨zb,zo,none⟩) o.length oc) wx (D++T3) b3 (q+1) P3 M3)))
  case first=>
   go_wp2
   go_loopw [6,7] (fun v6 v7 wr=>∃(gs:List Int) (ka:Option Addr) (kc2 c:Nat) (T3:List Nd) (P3 M3:Nat→Prop) (b3:Nat),v6=.slice ka gs.length kc2∧v7=.int .i64 (c:Int)∧c≤sv∧Hid (KbI S o most b s (max na (f+1)) (.slice (some ⟨sg,0,none⟩) S.length sc) (.slice (some ⟨zb,zo,none⟩) o.length oc) D N f i0 (bg+1) q P2 M2 w9 wr (.slice ka gs.length kc2) gs c T3 P3 M3 b3)) (fun _ v _=>sv-(RowKit.intOf v).toNat)
   case atStart=>exact⟨[],none,0,0,[],P2,M2,bg+1,rfl,rfl,Nat.zero_le _,I0⟩
   case round=>
    obtain⟨gs,ka,kc2,c,T3,P3,M3,b3,rfl,rfl,hcs0,KI⟩:=hrel
    clear I0
    obtain⟨hzo,hzs⟩:=CEL9.out wr KI.out.kp
    obtain⟨zb',zo',hza,hzb,q5⟩:=hzo.get hi0
    cases hza
    rw[show o.getD i0 0=o[i0] by rw[List.getD_eq_getElem?_getD,List.getElem?_eq_getElem hi0];rfl,HLV.out] at q5
    have q6:=hzs.cell hlS
    rw[HSV.out] at q6
    have hio:(i0:Int)<(o.length:Int):=by omega
    have hlo:(lv:Int)<(S.length:Int):=by omega
    have HQ5:=hide q5
    have HQ6:=hide q6
    have hgl:=KI.out.gc
    rcases KI.out.res with⟨N2,hv,hgc,hk,hb3,hm3⟩|⟨hd,hov3⟩
    ·obtain⟨d0,d1,d2,d7⟩:=hv.cells
     have HV3:=hide hv
     have HGC:=hide hgc
     have HKK:=hide hk
     have HB3:=hide (And.intro hb3 hm3)
     clear hv hgc hk hb3 hm3 hgl
     by_cases hcs:c<sv
     ·have hcs':(c:Int)<(sv:Int):=by omega
      have XN:Hid (∀n,Below wr.heap.size wr (wr.drewN n)):=fun n=>below_drewN (Below.refl _ _) n
      go_wp2
      go_quiet (fail)
      replace XN:=hide (XN.out nq)
      generalize wr.drewN nq=wq at *
      clear d0 d1 d2 d7 q5 q6 hzo hzs
      have KIQ:=hide (KI.out.below XN.out)
      have HVQ:=hide (HV3.out.kept (F:=fun _=>False) (Kept.of_below XN.out) (fun _ _ h=>h))
      go_upto_region 16 with fail
      have XD:Hid (Below wq.heap.size wq wq.drew):=(Below.refl _ wq).drew
      refine wp_unt (S:=fun V=>V.cell? ⟨b,0,none⟩=some (.pointer (some ⟨s,0,none⟩))∧V.cell? ⟨b,2,none⟩=some (.slice (some ⟨zb,zo,none⟩) o.length oc)∧V.cell? ⟨zb,zo+i0,none⟩=some (.int .i64 (lv:Int))) 14 (by kernel_rfl) ?_
      generalize wq.drew=wd at *
      have KID:=hide (KIQ.out.below XD.out)
      have HVD:=hide (HVQ.out.kept (F:=fun _=>False) (Kept.of_below XD.out) (fun _ _ h=>h))
      clear KIQ HVQ KI HV3 XN XD
      have OCL:Hid (∀W,Kept M2 w9 W→W.cell? ⟨zb,zo+i0,none⟩=some (.int .i64 (lv:Int))):=fun W hW=>by
       obtain⟨z1,z2,z3,_,z4⟩:=(CEL9.out W hW).1.get hi0
       cases z3
       rw[show o.getD i0 0=o[i0] by rw[List.getD_eq_getElem?_getD,List.getElem?_eq_getElem hi0];rfl,HLV.out] at z4
       exact z4
      have HS0:Hid (wd.cell? ⟨b,0,none⟩=some (.pointer (some ⟨s,0,none⟩))∧wd.cell? ⟨b,2,none⟩=some (.slice (some ⟨zb,zo,none⟩) o.length oc)∧wd.cell? ⟨zb,zo+i0,none⟩=some (.int .i64 (lv:Int))):=by
       obtain⟨e0,_,e2,_⟩:=HVD.out.cells
       exact⟨e0,e2,OCL.out wd KID.out.kp⟩
      have FEW:Hid (T3.length+tr S.length≤4*tr S.length*(b3-bg)∧bg+1≤b3∧b3≤8193):=by
       have f0:=KID.out.few
       have f1:=KID.out.bl
       have f2:=KID.out.bh
       have f3:c*tr S.length≤3*tr S.length:=Nat.mul_le_mul_right _ (by omega)
       have f4:b3-bg=(b3-(bg+1))+1:=by omega
       refine⟨?_,f1,by omega⟩
       rw[f4,Nat.mul_add]
       omega
      have hfew1:4*tr S.length*(b3-bg)+4*tr S.length*(8194-b3)=4*tr S.length*(8194-bg):=by
       have:=FEW.out.2
       rw[←Nat.mul_add]
       congr 1
       omega
      have HFE1:=hide hfew1
      clear hfew1
      have LF:=hide (HVD.out.left (l:=lv) (c:=c) (f:=f) ho hlS (by rw[HSV.out];exact hcs') h4 (by have:=HF.out;rw[List.length_append];omega) (by
       have f1:=FEW.out.1
       have f2:=HFE1.out
       have f3:=HSZ.out
       rw[List.length_append]
       omega))
      refine UntH.tk 0 rfl 95 HS0.out (fun w' ⟨q0,q1,q2⟩=>by go_simp;first|done|rfl) ?_
      refine UntH.tk 1 rfl 96 HS0.out (fun w' ⟨q0,q1,q2⟩=>by go_simp;first|done|rfl) ?_
      refine UntH.tk 2 rfl 97 HS0.out (fun w' ⟨q0,q1,q2⟩=>by go_simp;first|done|rfl) ?_
      refine UntH.tk 3 rfl 98 HS0.out (fun w' ⟨q0,q1,q2⟩=>by go_simp;first|done|rfl) ?_
      refine UntH.tk 4 rfl 99 HS0.out (fun w' ⟨q0,q1,q2⟩=>by go_simp;first|done|rfl) ?_
      refine UntH.tk 5 rfl 100 HS0.out (fun w' ⟨q0,q1,q2⟩=>by go_simp;first|done|rfl) ?_
      refine UntH.tk 6 rfl 101 HS0.out (fun w' ⟨q0,q1,q2⟩=>by go_simp;first|done|rfl) ?_
      refine UntH.tk 7 rfl 102 HS0.out (fun w' ⟨q0,q1,q2⟩=>by go_simp;first|done|rfl) ?_
      refine UntH.tk 8 rfl 103 HS0.out (fun w' ⟨q0,q1,q2⟩=>by go_simp;first|done|rfl) ?_
      refine UntH.tk 9 rfl 104 HS0.out (fun w' ⟨q0,q1,q2⟩=>by go_simp;first|done|rfl) ?_
      refine UntH.tk 10 rfl 105 HS0.out (fun w' ⟨q0,q1,q2⟩=>by go_simp;first|done|rfl) ?_
      refine UntH.tk 11 rfl 106 HS0.out (fun w' ⟨q0,q1,q2⟩=>by go_simp;first|done|rfl) ?_
      refine UntH.tk 12 rfl 107 HS0.out (fun w' ⟨q0,q1,q2⟩=>by go_simp;first|done|rfl) ?_
      try simp only[Act.put,List.setIfInBounds_toArray,List.set_cons_zero,List.set_cons_succ]
      refine UntH.step (i:=13) (by kernel_rfl) rfl (fun K hK=>?_)
      go_simp
      refine LF.out.mono ?_
      rintro e w10 ⟨g0,T1,P4,M4,rfl,sv4,rep4,kp4,pp4,mm4,few4⟩
      obtain⟨g,hg⟩:∃g:Nat,g0=(g:Int):=⟨g0.toNat,by have:=rep4.1.1;omega⟩
      subst hg
      have SV4:=hide sv4
      have RP4:=hide rep4
      have KP4:=hide kp4
      have PP4:=hide pp4
      have MM4:=hide mm4
      have FW4:=hide few4
      have KM4:Hid (Kept M2 w9 w10):=KID.out.kp.trans_new kp4 (fun k hk hm=>by
       rcases KID.out.mm k hm with h|h
       ·exact h
       ·omega)
      have HS1:Hid (w10.cell? ⟨b,0,none⟩=some (.pointer (some ⟨s,0,none⟩))∧w10.cell? ⟨b,2,none⟩=some (.slice (some ⟨zb,zo,none⟩) o.length oc)∧w10.cell? ⟨zb,zo+i0,none⟩=some (.int .i64 (lv:Int))):=by
       obtain⟨e0,_,e2,_⟩:=sv4.cells
       exact⟨e0,e2,OCL.out w10 KM4.out⟩
      clear sv4 rep4 kp4 pp4 mm4 few4
      refine hK _ _ HS1.out ?_
      clear hK K
      try simp only[Act.put,List.setIfInBounds_toArray,List.set_cons_zero,List.set_cons_succ]
      refine UntH.last (by kernel_rfl) rfl (by kernel_rfl) (by kernel_rfl) (fun K hK=>?_)
      go_simp
      refine hK _ _ ?_
      clear hK K HS0 HS1 LF OCL
      have NPP:Hid (∀k,k<w.heap.size→¬P k→¬P4 k):=fun k hk hp hp4=>by
       have h1:=KID.out.kp.size
       have h2:=HW9.out
       rcases PP4.out k hp4 with h|h
       ·rcases KID.out.pp k h with h|h
        ·rcases HK.out.2.1 k h with h|h
         ·exact hp h
         ·omega
        ·omega
       ·omega
      have CALL:=hide (ih (max na (f+1)) w10 (D++T3++T1) N2 b3 (q+1) P4 M4 g SV4.out (CEL9.out w10 KM4.out).2 (NPP.out sg HZS.out.lt HPS.out) (CEL9.out w10 KM4.out).1 (fun k hk=>NPP.out k (by
       rcases HZO.out with h|⟨b',off',e',h1,_⟩
       ·rw[h] at hi0
        cases hi0
       ·rw[e'] at hk
        have:b'=k:=Option.some.inj hk
        rw[←this]
        exact h1) (HPO.out k hk)) (by have:=RP4.out.1.2;omega) HB3.out.1 HB3.out.2 (fun k hk hkn=>by
       have hDf:hasR D (f:Int):=HHD.out
       have ea:D++T3++T1=D++(T3++T1):=List.append_assoc _ _ _
       refine dep_cut (f:=f) (c:=c) (by rw[HSV.out];exact hcs') RP4.out ?_
       by_cases e:k=i0
       ·refine .inl ?_
        subst e
        rw[HLV.out,Int.toNat_natCast]
       ·refine .inr (fun hdp=>?_)
        rw[ea] at hdp
        exact HNO.out k hk (by omega) ((dep_app HE.out.okD hDf).1 hdp)) (by
       have f1:=FEW.out.1
       have f2:=HFE1.out
       have f3:=HSZ.out
       have f4:=FW4.out
       rw[List.length_append,List.length_append]
       omega))
      have hc2:(c:Int)<(ledS S o).getD i0 0:=by rw[HSW.out.1];exact hcs'
      have HC2:=hide hc2
      have hg4:gs.length≤4:=by have:=KID.out.gc;omega
      clear hc2
      go_upto_region 15 with(first
       |(go_at_call 79;refine CALL.out.mono ?_;clear CALL;rintro e w11 hx;obtain⟨r,rfl,hrow,hz2,hpush⟩:=KID.out.push HE.out HC2.out HVD.out HGC.out HKK.out SV4.out (by rw[HLV.out,Int.toNat_natCast];exact RP4.out) KP4.out PP4.out MM4.out FW4.out hx;have YY:Hid (Below w11.heap.size w11 (w11.alloc (.cells #[.int .i64 r] 3))):=(al (Below.refl _ _) _);have ROW:=hide (own_below hrow YY.out);have HPU:=hide (hpush YY.out);have SZ2:Hid (w9.heap.size≤(w11.alloc (.cells #[.int .i64 r] 3)).heap.size):=Nat.le_trans hz2 YY.out.size;clear hx hrow hz2 hpush)
       |(at_builtin;refine wpList_append_lies _ rfl (.tmp 109) (.tmp 113) 22 rfl w9.heap.size 3 i3 (.int .i64 0) 1 8 Try.underlying22 hi3 hz30 hz31 hz32 rfl (by decide) _ gs.length (zC gs) rfl ROW.out ⟨w11.heap.size,0,none⟩ 1 1 [.int .i64 r] rfl rfl (one_new w11 _ _) (by simp[Value.oneCell']) (by decide) (by unfold maxLen;omega) (by omega) SZ2.out _ rfl ?_;intro g8 cap8 w12 h1 h2 h3 h4;obtain⟨T5,P5,M5,b5,hk5⟩:=HPU.out g8 cap8 w12 h1 h2 h3;have KI5:=hide hk5;clear h1 h2 h3 h4 hk5))
      have hl3:(gs++[r]).length=gs.length+1:=by simp
      have HL3:=hide hl3
      clear ROW HPU SZ2 YY KID hl3 SV4 RP4 KP4 PP4 MM4 FW4 KM4 HVD FEW HFE1 NPP HKK HGC HC2
      go_wp2
      go_roundw
      case rel=>exact⟨gs++[r],_,_,c+1,T5,P5,M5,b5,by rw[HL3.out],by go_num,by omega,KI5⟩
      case measure=>simp[RowKit.intOf];omega
     ·have hcs':¬(c:Int)<(sv:Int):=by omega
      have XN:Hid (∀n,Below wr.heap.size wr (wr.drewN n)):=fun n=>below_drewN (Below.refl _ _) n
      go_wp2
      go_quiet (fail)
      replace XN:=hide (XN.out nq)
      generalize wr.drewN nq=wq at *
      go_wp2
      go_meet
      exact⟨gs,ka,kc2,c,T3,P3,M3,b3,rfl,KI.out.below XN.out,.inl (by omega)⟩
    ·obtain⟨d0,d1,d2,d7⟩:=hd.cells
     have HD3:=hide hd
     have HOV3:=hide hov3
     clear hd hov3 hgl
     have XN:Hid (∀n,Below wr.heap.size wr (wr.drewN n)):=fun n=>below_drewN (Below.refl _ _) n
     by_cases hcs:c<sv
     ·have hcs':(c:Int)<(sv:Int):=by omega
      go_wp2
      go_quiet (fail)
      replace XN:=hide (XN.out nq)
      generalize wr.drewN nq=wq at *
      go_wp2
      go_meet
      exact⟨gs,ka,kc2,c,T3,P3,M3,b3,rfl,KI.out.below XN.out,.inr ⟨hcs0,HD3.out.kept (F:=fun _=>False) (Kept.of_below XN.out) (fun _ _ h=>h)⟩⟩
     ·have hcs':¬(c:Int)<(sv:Int):=by omega
      go_wp2
      go_quiet (fail)
      replace XN:=hide (XN.out nq)
      generalize wr.drewN nq=wq at *
      go_wp2
      go_meet
      exact⟨gs,ka,kc2,c,T3,P3,M3,b3,rfl,KI.out.below XN.out,.inl (by omega)⟩
  obtain⟨gs,ka,kc2,c,T3,P3,M3,b3,rfl,KI,HCS⟩:=hcut
  clear I0
  generalize wc=w13 at *
  obtain⟨ovr,n2,xs,ov3,av3,AT3,PS3,MS3,QS3,QM3,hx13,hn13,hres⟩:∃ovr n2 xs ov3 av3 AT3 PS3 MS3 QS3 QM3,OfX S most b s (max na (f+1)) (.slice (some ⟨sg,0,none⟩) S.length sc) (.slice (some ⟨zb,zo,none⟩) o.length oc) w13 (D++T3) b3 ovr n2 xs ov3 av3 AT3 PS3 MS3 QS3 QM3 P3 M3∧n2+(q+1)≤b3∧((ovr=false∧∃N3 R3,n2=R3.length∧xs=ndC R3∧OfV S o most w13 (D++T3) N3 R3 AT3 P3 M3∧gs.length=sv∧kidsF (ins (ledS S o) most) N (cuts (ledS S o) (newF o D (f:Int)) i0)=(gs,0,N3)∧b3=N3.length+(q+1)∧(b3:Int)≤most)∨(ovr=true∧OverP (ledS S o) most q N (newF o D (f:Int)))):=by
   rcases KI.out.res with⟨N3,hv,hgc,hk,hb3,hm3⟩|⟨hd,hov3⟩
   ·have hcells:=hv.cells.2.2.2
    obtain⟨R3,ov3,av3,AT3,PS3,MS3,QS3,QM3,h1,h2⟩:=hv
    have hn:R3.length=N3.length:=by rw[←h2.nd,List.length_map]
    refine⟨false,_,_,ov3,av3,AT3,PS3,MS3,QS3,QM3,h1,by omega,.inl ⟨rfl,N3,R3,rfl,rfl,h2,?_,?_,hb3,hm3⟩⟩
    ·rcases HCS.out with h|⟨_,h⟩
     ·rw[hgc,h]
     ·have:=h.cells.2.2.2
      rw[hcells] at this
      cases this
    ·have hcs:c=sv:=by
      rcases HCS.out with h|⟨_,h⟩
      ·exact h
      ·have:=h.cells.2.2.2
       rw[hcells] at this
       cases this
     rw[hcs,List.take_of_length_le (by rw[cuts_length];have:=HSW.out.1;omega)] at hk
     exact hk
   ·obtain⟨n2,xs,ov3,av3,AT3,PS3,MS3,QS3,QM3,h1,h2⟩:=hd
    exact⟨true,n2,xs,ov3,av3,AT3,PS3,MS3,QS3,QM3,h1,h2,.inr ⟨rfl,hov3⟩⟩
  have HX13:=hide hx13
  have HRES:=hide hres
  have HN13:=hide hn13
  have hb3m:=KI.out.bh
  have hn2:n2≤8193:=by omega
  have hfa3:f<AT3.length:=by have:=hx13.na;omega
  obtain⟨ag3,ac3,hav3⟩:∃ag ac,av3=.slice (some ⟨ag,0,none⟩) AT3.length ac:=by
   obtain⟨ao,cap,e,hp⟩:=own_shape hx13.bu.atr
   obtain⟨g,rfl⟩:=hp (by omega)
   exact⟨g,cap,e⟩
  subst hav3
  obtain⟨oa3,oc3,hov4,_⟩:=own_shape hx13.bu.out
  subst hov4
  have hg4:gs.length≤4:=by
   have h1:=KI.out.gc
   rcases HCS.out with h|⟨h,_⟩<;>omega
  have HKG:Hid (∀a,ka=some a→a.block<w13.heap.size∧¬P3 a.block):=fun a ha=>⟨(World.ownsRow.lt KI.out.row a.block (by rw[ha];rfl)).2,KI.out.np a.block (by rw[ha];rfl)⟩
  have c4:=hx13.bu.cells.2.2.2.2.1
  have HBN:Hid (¬(Value.slice oa3 n2 oc3).ownBlock=some b):=hx13.bu.nb.1
  have Y1:Hid (Below w13.heap.size w13 (w13.alloc (.cells #[.int .i64 (i0:Int),.slice ka gs.length kc2] 86))):=al (Below.refl _ _) _
  have N1:=hide (own_below hx13.bu.out Y1.out)
  have HC4:Hid (c≤4):=by unfold Hid;rcases HCS.out with h|⟨h,_⟩<;>omega
  clear hx13 hn13 hres HCS
  go_upto_region 19 with(at_builtin;refine wpList_append_lies _ rfl (.tmp 119) (.tmp 123) 63 rfl 0 86 i47 (.agg #[.int .i64 0,.slice none 0 0]) 2 32 Try.underlying63 hi47 hz470 hz471 hz472 rfl (by decide) _ n2 xs rfl N1.out ⟨w13.heap.size,0,none⟩ 1 1 [.int .i64 (i0:Int),.slice ka gs.length kc2] rfl rfl (two_new w13 _ _ _) (by simp[Value.oneCell']) (by decide) (by unfold maxLen;omega) (by omega) (Nat.zero_le _) _ rfl ?_;intro g8 cap8 w14 h1 h2 h3 h4;have O8:=hide h1;have K8:=hide ((Kept.of_below (F:=fun k=>(Value.slice oa3 n2 oc3).ownBlock=some k) Y1.out).trans_new (kept_of_grown h2) (fun _ _ h=>h));have H8:=hide h3;have hb8:=(K8.out.block b (lt_of_block HX13.out.bu.blk) (fun e=>HBN.out e)).trans HX13.out.bu.blk;have c8:=cell_of_row w14 b 4 _ _ _ hb8;have f8:=frozen_of_row w14 b 4 _ _ hb8;clear h1 h2 h3 h4 hb8)
  clear c4 c8 f8 N1
  obtain⟨x15,k15,n15⟩:=HX13.out.putN (v':=.slice (some ⟨g8,0,none⟩) (n2+1) cap8) HKG.out K8.out O8.out (fun k hk=>by
   have e:g8=k:=Option.some.inj hk
   rcases H8.out with h|h
   ·exact .inl (by rw[←e];exact h)
   ·exact .inr (by rw[←e,h];exact Y1.out.size))
  have HX15:=hide x15
  have K15:=hide k15
  have NB15:=hide n15
  clear x15 k15 n15 O8 K8 H8 Y1
  generalize w14.setCell ⟨b,4,none⟩ (.slice (some ⟨g8,0,none⟩) (n2+1) cap8)=w15 at *
  have XD:Hid (Below w15.heap.size w15 w15.drew):=(Below.refl _ w15).drew
  have elen:IntKind.i64.wrap (((n2+1:Nat):Int)+1)=(n2:Int)+2:=by simp[IntKind.wrap,IntKind.bits,IntKind.signed];omega
  have elen2:IntKind.i64.wrap ((n2:Int)+1+1)=(n2:Int)+2:=by simp[IntKind.wrap,IntKind.bits,IntKind.signed];omega
  have hfa3':(f:Int)<(AT3.length:Int):=by omega
  refine wp_unt (S:=fun V=>V=w15.drew) 12 (by kernel_rfl) ?_
  generalize w15.drew=wf at *
  have HXF:=hide (HX15.out.kept (Kept.of_below (F:=fun _=>False) XD.out) (fun _ _ h=>h))
  clear HX15
  obtain⟨-,-,-,-,c4,c5,-,-⟩:=HXF.out.bu.cells
  have a5:wf.cell? ⟨ag3,f,none⟩=some (.int .i64 (AT3.getD f 0)):=by rw[World.ownsRow.cellAt HXF.out.bu.atr f (by omega),zC_get AT3 hfa3]
  have f5:wf.frozen? ⟨ag3,f,none⟩=false:=by
   obtain⟨cs,h5⟩:=own_ty HXF.out.bu.atr ag3 rfl
   exact frozen_of_row wf ag3 f _ _ h5
  obtain⟨xF,kF,mF⟩:=HXF.out.putA rfl f ((n2:Int)+2)
  have HXG:=hide xF
  have KG:=hide kF
  have MG:=hide mF
  clear xF kF mF
  refine UntH.tk 0 rfl 127 rfl (fun w' hw'=>by subst hw';go_simp;first|done|rfl) ?_
  refine UntH.tk 1 rfl 128 rfl (fun w' hw'=>by subst hw';go_simp;first|done|rfl) ?_
  refine UntH.tk 2 rfl 129 rfl (fun w' hw'=>by subst hw';go_simp;first|done|rfl) ?_
  refine UntH.tk 3 rfl 130 rfl (fun w' hw'=>by subst hw';go_simp;first|done|rfl) ?_
  refine UntH.tk 4 rfl 131 rfl (fun w' hw'=>by subst hw';go_simp;first|done|rfl) ?_
  refine UntH.tk 5 rfl 132 rfl (fun w' hw'=>by subst hw';go_simp;first|done|rfl) ?_
  refine UntH.tk 6 rfl 133 rfl (fun w' hw'=>by subst hw';go_simp;first|done|rfl) ?_
  refine UntH.tk 7 rfl 134 rfl (fun w' hw'=>by subst hw';go_simp;first|done|rfl) ?_
  refine UntH.tk 8 rfl 135 rfl (fun w' hw'=>by subst hw';go_simp;first|done|rfl) ?_
  refine UntH.tk 9 rfl 136 rfl (fun w' hw'=>by subst hw';go_simp;first|done|rfl) ?_
  refine UntH.tk 10 rfl 137 rfl (fun w' hw'=>by subst hw';go_simp;first|done|rfl) ?_
  refine UntH.tk 11 rfl 138 rfl (fun w' hw'=>by subst hw';go_simp;first|done|rfl) ?_
  try simp only[Act.put,List.setIfInBounds_toArray,List.set_cons_zero,List.set_cons_succ]
  refine UntH.last (by kernel_rfl) rfl (by kernel_rfl) (by kernel_rfl) (fun K hK=>?_)
  go_simp
  refine hK _ _ ?_
  clear hK K elen elen2 c4 c5 a5 f5 HXF
  generalize wf.setCell ⟨ag3,f,none⟩ (.int .i64 ((n2:Int)+2))=wg at *
  obtain⟨-,-,-,-,-,c5,-,-⟩:=HXG.out.bu.cells
  have a5:wg.cell? ⟨ag3,f,none⟩=some (.int .i64 ((n2:Int)+2)):=by
   have hr:=HXG.out.bu.atr
   rw[List.length_set] at hr
   rw[World.ownsRow.cellAt hr f (by omega),zC_get _ (by rw[List.length_set];exact hfa3),getD_here hfa3]
  have KEND:Hid (Kept M w wg):=by
   have k1:Kept M w w13:=HK9.out.trans_new KI.out.kp (fun k hk hm=>by
    rcases HK.out.2.2 k hm with h|h
    ·exact h
    ·omega)
   have hz:=HW9.out
   have hz2:=KI.out.kp.size
   have m3:∀k,k<w.heap.size→M3 k→M k:=fun k hk hm=>by
    rcases KI.out.mm k hm with h|h
    ·rcases HK.out.2.2 k h with h|h
     ·exact h
     ·omega
    ·omega
   have k2:Kept M w w15:=k1.trans_new K15.out m3
   have k3:Kept M w wf:=k2.trans (Kept.of_below XD.out)
   exact k3.trans_new KG.out (fun k hk hF=>by
    subst hF
    rcases MG.out with h|h
    ·exact m3 _ hk h
    ·rcases NB15.out _ h with h|h
     ·exact m3 _ hk h
     ·omega)
  have FPP:Hid (∀k,P3 k→P k∨w.heap.size≤k):=fun k hk=>by
   rcases KI.out.pp k hk with h|h
   ·exact HK.out.2.1 k h
   ·exact .inr (Nat.le_trans HW9.out h)
  have FMM:Hid (∀k,M3 k→M k∨w.heap.size≤k):=fun k hk=>by
   rcases KI.out.mm k hk with h|h
   ·exact HK.out.2.2 k h
   ·exact .inr (Nat.le_trans HW9.out h)
  have FEW2:Hid (bg≤b3∧T3.length≤4*tr S.length*(b3-bg)):=by
   have f0:=KI.out.few
   have f1:=KI.out.bl
   have f3:c*tr S.length≤4*tr S.length:=Nat.mul_le_mul_right _ HC4.out
   have f4:b3-bg=(b3-(bg+1))+1:=by omega
   refine⟨by omega,?_⟩
   rw[f4,Nat.mul_add]
   omega
  have HKA:Hid (∀a,ka=some a→w.heap.size≤a.block):=fun a ha=>Nat.le_trans HW9.out (World.ownsRow.lt KI.out.row a.block (by rw[ha];rfl)).1
  go_wp2
  go_ret
  have hZ13:w.heap.size≤w13.heap.size:=Nat.le_trans HW9.out KI.out.kp.size
  refine⟨(n2:Int)+2,T3,fun k=>P3 k∨(Value.slice (some ⟨g8,0,none⟩) (n2+1) cap8).ownBlock=some k∨∃a,ka=some a∧k=a.block,fun k=>M3 k∨(Value.slice (some ⟨g8,0,none⟩) (n2+1) cap8).ownBlock=some k,b3,rfl,KEND.out,fun k hp=>?_,fun k hm=>?_,FEW2.out.1,hb3m,FEW2.out.2,?_⟩
  rotate_left 2
  ·have hxg:=HXG.out
   rcases HRES.out with⟨rfl,N3,R3,rfl,rfl,hv3,hgs,hkk,hb3,hbm3⟩|⟨rfl,hov3⟩
   ·left
    have hRN:R3.length=N3.length:=by rw[←hv3.nd,List.length_map]
    obtain⟨kg,rfl⟩:∃kg,ka=some ⟨kg,0,none⟩:=by
     obtain⟨ao,c',e,hp⟩:=own_shape KI.out.row
     obtain⟨g',rfl⟩:=hp (by have:=HSW.out.2.2;omega)
     injection e with e
     exact⟨g',e⟩
    have hkg:=HKG.out _ rfl
    have zg:ZBk w13 kg gs:=by
     obtain⟨cs,h5⟩:=own_ty KI.out.row kg rfl
     refine⟨cs,h5,fun i hi=>?_⟩
     have:=World.ownsRow.cellAt KI.out.row i (by omega)
     rw[cell_of_row w13 kg i _ _ _ h5,zC_get gs hi] at this
     exact this
    have hi0S:i0<(ledS S o).length:=by rw[ledS_length ho,←ho.len];exact hi0
    have hk0:(kidsF (ins (ledS S o) most) N (cuts (ledS S o) (newF o D (f:Int)) i0)).2.1=0:=by rw[hkk]
    have hins:=ins_cases HE.out.okN hi0S HE.out.hang HE.out.asks HE.out.none hk0
    rw[hkk] at hins
    have hins2:ins (ledS S o) most N (newF o D (f:Int))=((N3.length:Int)+2,0,N3++[((i0:Int),gs)]):=by
     rcases hins with⟨_,h⟩|⟨h,_⟩
     ·exact h
     ·exfalso
      simp only at h
      omega
    have hout:=ins_out HE.out.okN (Nat.zero_le _) HG0.out
    rw[hins2] at hout
    have hal:Alike (ledS S o) (newF o (D++T3) (f:Int)) (newF o D (f:Int)):=newF_app ho HE.out.okD HF.out
    have hrep:Rep (ledS S o) (N3++[((i0:Int),gs)]) (newF o (D++T3) (f:Int)) ((N3.length:Int)+2):=by
     rcases hout.res with⟨_,h,_⟩|⟨h,_⟩
     ·exact h.alike hal.symm
     ·simp at h
    have hco:=cuts_out HE.out.okN hi0S HE.out.hang
    have hcn:=cuts_new HE.out.okN hi0S HE.out.hang
    rw[hkk] at hco hcn
    have hnr3:=norep hco.ok HE.out.okN hco.ext hcn HE.out.asks HE.out.none
    have hat:=hv3.at'.set (x:=((i0:Int),gs)) hv3.ok hfa3 (fun⟨r,hr⟩=>hnr3 ⟨r,hr.alike hal⟩) hrep
    have kvs:∀y∈R3,ZBk w13 y.kb y.ks∧P3 y.kb∧¬M3 y.kb:=hv3.kid
    have kk:Kept (fun k=>M3 k∨w13.heap.size≤k) w13 wg:=((K15.out.mono (fun k hk=>.inl hk)).trans (Kept.of_below XD.out)).trans (KG.out.mono (fun k hF=>by
     subst hF
     rcases MG.out with h|h
     ·exact .inl h
     ·exact NB15.out _ h))
    have hmg:∀k,k<w13.heap.size→¬M3 k→¬(M3 k∨(Value.slice (some ⟨g8,0,none⟩) (R3.length+1) cap8).ownBlock=some k):=fun k hk hm hh=>by
     rcases hh with h|h
     ·exact hm h
     ·rcases NB15.out k h with h|h
      ·exact hm h
      ·omega
    refine⟨N3++[((i0:Int),gs)],⟨R3++[⟨(i0:Int),gs,kg,kc2⟩],.slice (some ⟨g8,0,none⟩) (R3.length+1) cap8,.slice (some ⟨ag3,0,none⟩) AT3.length ac3,AT3.set f ((R3.length:Int)+2),PS3,MS3,fun k=>QS3 k∨(Value.slice (some ⟨g8,0,none⟩) (R3.length+1) cap8).ownBlock=some k,fun k=>QM3 k∨(Value.slice (some ⟨g8,0,none⟩) (R3.length+1) cap8).ownBlock=some k,?_,?_⟩,by rw[hins2,hRN],by rw[List.length_append,List.length_singleton];omega,hbm3⟩
    ·have e1:(R3++[(⟨(i0:Int),gs,kg,kc2⟩:ND)]).length=R3.length+1:=by simp
     have e2:ndC (R3++[⟨(i0:Int),gs,kg,kc2⟩])=ndC R3++[.int .i64 (i0:Int),.slice (some ⟨kg,0,none⟩) gs.length kc2]:=by simp[ndC]
     rw[e1,e2]
     exact⟨hxg.st,hxg.bu,hxg.pq,hxg.ps,hxg.qs,hxg.ms,hxg.qm,hxg.mp,hxg.mc,hxg.lt,by have:=hxg.na;omega⟩
    ·refine⟨by rw[List.map_append,hv3.nd];rfl,?_,by rw[hRN];exact hat,fun y hy=>?_⟩
     ·exact hout.ok
     ·rcases List.mem_append.1 hy with hy|hy
      ·obtain⟨z1,z2,z3⟩:=kvs y hy
       have zl:=z1.lt
       exact⟨z1.kept kk (fun h=>by rcases h with h|h;(exact z3 h);(omega)),.inl z2,hmg _ zl z3⟩
      ·rw[List.mem_singleton.1 hy]
       have hnm:¬M3 kg:=fun h=>hkg.2 (HX13.out.mp _ h)
       exact⟨zg.kept kk (fun h=>by rcases h with h|h;(exact hnm h);(have:=hkg.1;simp only at this;omega)),.inr (.inr ⟨_,rfl,rfl⟩),hmg _ hkg.1 hnm⟩
   ·right
    exact⟨⟨_,_,_,_,_,_,_,_,_,⟨hxg.st,hxg.bu,hxg.pq,hxg.ps,hxg.qs,hxg.ms,hxg.qm,hxg.mp,hxg.mc,hxg.lt,by have:=hxg.na;omega⟩,by have:=HN13.out;omega⟩,hov3⟩
  ·rcases hp with h|h|⟨a,ha,h⟩
   ·exact FPP.out k h
   ·rcases NB15.out k h with h|h
    ·exact FPP.out k (HX13.out.mp k h)
    ·exact .inr (by omega)
   ·exact .inr (by rw[h];exact HKA.out a ha)
  ·rcases hm with h|h
   ·exact FMM.out k h
   ·rcases NB15.out k h with h|h
    ·exact FMM.out k h
    ·exact .inr (by omega)
end
end Go.Proofs.Ytnddhkhmbjeefaa

