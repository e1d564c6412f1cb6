/-
  The document's Rebuild by its contract. Conditions: as inOrder's.
-/
import Derived.Test.YtnddhkhmbjeefaaC47
import Derived.Test.YtnddhkhmbjeefaaC36
import Derived.Deep.DeepCutAuto
import Derived.Deep.CutBlock
import Derived.Laws.AppendOwnNone
import Derived.Test.YtnddhkhmbjeefaaC31
import Derived.Test.YtnddhkhmbjeefaaC33
import Derived.Test.YtnddhkhmbjeefaaC38
import Derived.Test.YtnddhkhmbjeefaaC32
import Derived.Laws.CopyOwn
import Derived.Test.YtnddhkhmbjeefaaC42
namespace Go.Proofs.Ytnddhkhmbjeefaa
open Go.RowKit Go.Lib Go.Maps
section
variable {w:World} {x:Nat} {S o rs:List Int} {M0 most:Int} {N:List Nd} {Q:Nat→Prop}
theorem ord_of (h:OrdN o S.length):IsOrd S o:=⟨h.2.1,h.1,h.2.2⟩
theorem ord_to (h:IsOrd S o):OrdN o S.length:=⟨h.len,h.nod,h.rng⟩
theorem May.few {n:Int} (h:May S N n rs) (hS:SzOk S):rs.length≤140737488351232:=by
 have h1:=h.len
 have h2:=h.ge
 have h3:=h.lt
 have h4:=(hS.each (S.getD n.toNat 0) (by rw[List.getD_eq_getElem?_getD,List.getElem?_eq_getElem (by omega)];exact List.getElem_mem _)).2
 omega
theorem mk_next {M:Int} (h:Ok S M N) {i:Nat} (hi:i<N.length):MkP S M (N.take i) (N[i]).1 (N[i]).2 ((i:Int)+2) 0 (N.take (i+1)):=by
 have hl:(N.take i).length=i:=by rw[List.length_take];omega
 have hf:=h.few
 refine .inr (.inr (.inr (.inr ⟨(h.each i hi).1,(h.each i hi).2,fun hm=>?_,by rw[hl];omega,by rw[hl],rfl,List.take_succ_eq_append_getElem hi⟩)))
 obtain⟨j,hj,e⟩:=List.getElem_of_mem hm
 rw[hl] at hj
 rw[List.getElem_take] at e
 exact List.pairwise_iff_getElem.1 h.nod j i (by omega) hi hj e
def RbD (S o rs:List Int) (most:Int) (N:List Nd) (w:World) (e:Ending) (w':World):Prop:=Below w.heap.size w w'∧
 ((∃y oa oc outs N2 P,(0≤most∧most≤8192∧∀f∈rs,hasR N f)∧IsOrd S o∧e=.returned (.tuple #[.pointer (some ⟨y,0,none⟩),.slice oa rs.length oc,.int .i64 0])∧foldF S most (rs.map fun f p=>sayR N p f) o=(outs,0,N2)∧RA w' y (ledS S o) most N2 P∧(∀k,P k→w.heap.size≤k)∧w'.ownsRow w.heap.size 3 1 (.slice oa rs.length oc) rs.length (zC outs)∧∀k,(Value.slice oa rs.length oc).ownBlock=some k→¬P k)∨
  ((0≤most∧most≤8192∧∀f∈rs,hasR N f)∧IsOrd S o∧e=.returned (.tuple #[.pointer none,.slice none 0 0,.int .i64 2])∧(foldF S most (rs.map fun f p=>sayR N p f) o).2.1≠0)∨
  (¬((0≤most∧most≤8192∧∀f∈rs,hasR N f)∧IsOrd S o)∧e=.returned (.tuple #[.pointer none,.slice none 0 0,.int .i64 1])))
set_option maxRecDepth 100000 in
set_option maxHeartbeats 8000000 in
theorem rebuildD_any (hS:SzOk S) (h4:∀x∈S,x≤4) (ra oo:Option Addr) (rc oc:Nat) (hA:RA w x S M0 N Q) (hz:ZAt w ra rs) (hzo:ZAt w oo o) (hol:o.length≤140737488351232) (hl:rs.length≤268435456) (hsz:rs.length*tr S.length+4*tr S.length*8194≤1649267441664):
 Calls Try.prog 36 #[.pointer (some ⟨x,0,none⟩),.slice ra rs.length rc,.slice oo o.length oc,.int .i64 most] w fun e w'=>RbD S o rs most N w e w':=by
 obtain⟨i3,hi3,hz30,hz31,hz32⟩:=info_parts Try.info3
 have HA:=hide hA
 have HZ:=hide hz
 have HZO:=hide hzo
 have HSZ:=hide hsz
 have HS:=hide hS
 have H4:=hide h4
 clear hA hz hzo hsz h4
 have MAY:=hide (mayD_any (w:=w) ra rc rs most (by omega) HZ.out HA.out)
 by_cases hmay:¬(0≤most∧most≤8192∧∀f∈rs,hasR N f)
 ·have FIN:Hid (∀wq,Below w.heap.size w wq→RbD S o rs most N w (.returned (.tuple #[.pointer none,.slice none 0 0,.int .i64 1])) wq):=fun wq hq=>⟨hq,.inr (.inr ⟨fun h=>hmay h.1,rfl⟩)⟩
  have HM:=hide hmay
  clear hmay
  go_enter Try.func36,Try.ntmps36
  go_upto_region 2 with(go_at_call 64;refine MAY.out.mono ?_;clear MAY;rintro e w1 ⟨⟨b1,rfl,hb1⟩,x1⟩;have X1:=hide x1;obtain rfl:b1=false:=(Bool.eq_false_iff.2 fun e=>HM.out (hb1.1 e));clear hb1 x1)
  go_wp2
  refine bodyPost_ret (v:=.tuple #[.pointer none,.slice none 0 0,.int .i64 1]) (by simp[results,Try.results36,go_sem];try rfl) rfl ?_
  exact FIN.out _ X1.out
 have HM:=hide (Classical.not_not.1 hmay)
 clear hmay
 have SZD:Hid (∀V,Below w.heap.size w V→Calls Try.prog 11 #[.pointer (some ⟨x,0,none⟩)] V fun e w'=>∃g c,e=.returned (.slice (some ⟨g,0,none⟩) S.length c)∧ZBk w' g S∧V.heap.size≤g∧Below V.heap.size V w'):=fun V hV=>sizesD_any (HA.out.below hV)
 go_enter Try.func36,Try.ntmps36
 go_upto_region 4 with(go_at_call 64;refine MAY.out.mono ?_;clear MAY;rintro e w1 ⟨⟨b1,rfl,hb1⟩,x1⟩;have X1:=hide x1;obtain rfl:b1=true:=hb1.2 HM.out;clear hb1 x1)
 go_upto_region 5 with(go_at_call 11;refine(SZD.out w1 X1.out).mono ?_;clear SZD;rintro e w2 ⟨sg,sc,rfl,zb,hsg,x2⟩;have ZS:=hide zb;have HSG:=hide hsg;have X2:=hide (bt X1.out x2 (Nat.le_refl _));clear zb hsg x2 X1)
 have ORD:=hide (orderD_any (w:=w2) oo oc o S.length HS.out.le hol (HZO.out.below X2.out))
 by_cases hord:¬OrdN o S.length
 ·have FIN:Hid (∀wq,Below w.heap.size w wq→RbD S o rs most N w (.returned (.tuple #[.pointer none,.slice none 0 0,.int .i64 1])) wq):=fun wq hq=>⟨hq,.inr (.inr ⟨fun h=>hord (ord_to h.2),rfl⟩)⟩
  have HN:=hide hord
  clear hord
  go_upto_region 6 with(go_at_call 65;refine ORD.out.mono ?_;clear ORD;rintro e w3 ⟨⟨b1,rfl,hb1⟩,x3⟩;have X3:=hide (bt X2.out x3 (Nat.le_refl _));obtain rfl:b1=false:=(Bool.eq_false_iff.2 fun e=>HN.out (hb1.1 e));clear hb1 x3)
  go_wp2
  refine bodyPost_ret (v:=.tuple #[.pointer none,.slice none 0 0,.int .i64 1]) (by simp[results,Try.results36,go_sem];try rfl) rfl ?_
  exact FIN.out _ X3.out
 have HO:=hide (Classical.not_not.1 hord)
 clear hord
 go_upto_region 8 with(go_at_call 65;refine ORD.out.mono ?_;clear ORD;rintro e w3 ⟨⟨b1,rfl,hb1⟩,x3⟩;have Y3:=hide x3;have X3:=hide (bt X2.out x3 (Nat.le_refl _));obtain rfl:b1=true:=hb1.2 HO.out;clear hb1 x3)
 have hio:=ord_of HO.out
 have INO:=hide (inOrder_any (w:=w3) HS.out hio H4.out HM.out.1 HM.out.2.1 ra oo rc oc (HA.out.below X3.out) (HZ.out.below X3.out) (HZO.out.below X3.out) HM.out.2.2 hl HSZ.out)
 have ZS3:=hide (ZS.out.below Y3.out)
 have HIO:=hide hio
 clear hio HA HZ HSZ H4 ZS X2 Y3
 go_upto_region 9 with(go_at_call 66;refine INO.out.mono ?_;clear INO;rintro e w4 ⟨nv,oa,oc2,fits,outs,rfl,x4,row4,res4⟩;have Y4:=hide x4;have X4:=hide (bt X3.out x4 (Nat.le_refl _));have ROW:=hide row4;have RES:=hide res4;clear x4 row4 res4)
 have ZS4:=hide (ZS3.out.below Y4.out)
 have hx3:=X3.out.size
 have ROWW:Hid (w4.ownsRow w.heap.size 3 1 (.slice oa rs.length oc2) rs.length (zC outs)):=own_mono ROW.out hx3
 clear ZS3 Y4 X3 ROW hx3
 obtain⟨rfl,hne⟩|⟨rfl,R2,N2,row2,hn2,kids2,hf2,ok2⟩:(fits=false∧(foldF S most (rs.map fun f p=>sayR N p f) o).2.1≠0)∨(fits=true∧∃R2 N2,w4.ownsRow 0 86 2 nv R2.length (ndC R2)∧R2.map ND.nd=N2∧(∀y∈R2,ZBk w4 y.kb y.ks)∧foldF S most (rs.map fun f p=>sayR N p f) o=(outs,0,N2)∧Ok (ledS S o) most N2):=RES.out.elim .inr (fun h=>.inl ⟨h.1,h.2.1⟩)
 ·have FIN:Hid (∀wq,Below w.heap.size w wq→RbD S o rs most N w (.returned (.tuple #[.pointer none,.slice none 0 0,.int .i64 2])) wq):=fun wq hq=>⟨hq,.inr (.inl ⟨HM.out,HIO.out,rfl,hne⟩)⟩
  clear RES hne
  go_wp2
  refine bodyPost_ret (v:=.tuple #[.pointer none,.slice none 0 0,.int .i64 2]) (by simp[results,Try.results36,go_sem];try rfl) rfl ?_
  exact FIN.out _ X4.out
 have OWN2:=hide row2
 have HN2:=hide hn2
 have KID2:=hide kids2
 have HF2:=hide hf2
 have OK2:=hide ok2
 clear RES row2 hn2 kids2 hf2 ok2
 obtain⟨na,nc,hnv,hnp⟩:=own_shape OWN2.out
 subst hnv
 have HNP:=hide hnp
 clear hnp
 have h12:o.length≤12:=by have:=HIO.out.len;have:=HS.out.le;omega
 have RNG:Hid (∀k (hk:k<o.length),0≤o[k]∧o[k]<(S.length:Int)):=fun k hk=>HIO.out.rng _ (List.getElem_mem hk)
 go_upto_block 0 with fail
 go_cut [17] (fun v17 wx=>∃sa sc2,v17=.slice sa o.length sc2∧Hid (wx.ownsRow w4.heap.size 3 1 (.slice sa o.length sc2) o.length (zC (ledS S o)))∧Hid (Below w4.heap.size w4 wx))
 case first=>
  go_wp2
  go_loopw [17,18] (fun v17 v18 wr=>∃(k:Nat) (sa:Option Addr) (sc2:Nat),v17=.slice sa k sc2∧v18=.int .i64 (k:Int)∧k≤o.length∧Hid (wr.ownsRow w4.heap.size 3 1 (.slice sa k sc2) k (zC ((ledS S o).take k)))∧Hid (Below w4.heap.size w4 wr)) (fun _ v _=>o.length-(RowKit.intOf v).toNat)
  case atStart=>exact⟨0,none,0,rfl,rfl,Nat.zero_le _,World.ownsRow_nil _ _ _ _,Below.refl _ _⟩
  case round=>
   obtain⟨k,sa,sc2,rfl,rfl,hk,OW,BL⟩:=hrel
   by_cases hlt:k<o.length
   ·have hlt':(k:Int)<(o.length:Int):=by omega
    obtain⟨ob,oof,hoa,hob,q1⟩:=(HZO.out.below (bt X4.out BL.out (Nat.le_refl _))).get hlt
    subst hoa
    have hr:=RNG.out k hlt
    have hg:o.getD k 0=o[k]:=by rw[List.getD_eq_getElem?_getD,List.getElem?_eq_getElem hlt];rfl
    rw[hg] at q1
    obtain⟨lv,hlv⟩:∃lv:Nat,o[k]=(lv:Int):=⟨(o[k]).toNat,by omega⟩
    have HLS:Hid (zC ((ledS S o).take (k+1))=zC ((ledS S o).take k)++[.int .i64 (S.getD lv 0)]):=by
     have hkl:k<(ledS S o).length:=by rw[ledS_length HIO.out,←HIO.out.len];exact hlt
     unfold Hid
     rw[List.take_succ_eq_append_getElem hkl]
     simp only[zC,List.map_append,List.map_cons,List.map_nil]
     congr 3
     simp only[ledS,List.getElem_map,szL,hlv,Int.toNat_natCast]
    rw[hlv] at q1 hr
    have hlvl:lv<S.length:=by omega
    have hlvl':(lv:Int)<(S.length:Int):=by omega
    have q2:=(ZS4.out.below BL.out).cell hlvl
    clear hg hlv hr
    generalize S.getD lv 0=z at *
    have hwz:=BL.out.size
    have YY:Hid (Below wr.heap.size wr (wr.alloc (.cells #[.int .i64 z] 3))):=al (Below.refl _ _) _
    have ROW:=hide (own_below OW.out YY.out)
    have SZ2:Hid (w4.heap.size≤(wr.alloc (.cells #[.int .i64 z] 3)).heap.size):=Nat.le_trans hwz YY.out.size
    go_upto_region 14 with(at_builtin;refine wpList_append_lies _ rfl (.tmp 53) (.tmp 61) 22 rfl w4.heap.size 3 i3 (.int .i64 0) 1 8 Try.underlying22 hi3 hz30 hz31 hz32 rfl (by decide) _ k (zC ((ledS S o).take k)) rfl ROW.out ⟨wr.heap.size,0,none⟩ 1 1 [.int .i64 z] rfl rfl (one_new wr _ _) (by simp[Value.oneCell']) (by decide) (by unfold maxLen;omega) (by omega) SZ2.out _ rfl ?_;intro g8 cap8 w8 h1 h2 h3 h4;have BL8:Hid (Below w4.heap.size w4 w8):=((BL.out.trans (YY.out.mono hwz)).grown h2 SZ2.out (fun j hj=>(World.ownsRow.lt OW.out j hj).1));have OW8:=hide h1;clear h1 h2 h3 h4)
    clear ROW SZ2 YY OW BL q1 q2
    go_wp2
    go_roundw
    case rel=>exact⟨k+1,_,cap8,rfl,by go_num,by omega,hide (by rw[HLS.out];exact OW8.out),BL8⟩
    case measure=>simp[RowKit.intOf];omega
   ·have hlt':¬(k:Int)<(o.length:Int):=by omega
    have hk2:k=o.length:=by omega
    have OW2:Hid (wr.ownsRow w4.heap.size 3 1 (.slice sa o.length sc2) o.length (zC (ledS S o))):=by
     have h1:=OW.out
     rw[List.take_of_length_le (by rw[ledS_length HIO.out,←HIO.out.len];omega),hk2] at h1
     exact h1
    clear OW
    go_wp2
    go_meet
    exact⟨sa,sc2,rfl,OW2,BL⟩
 obtain⟨sa,sc2,rfl,OW,BL⟩:=hcut
 have LLE:Hid ((ledS S o).length=o.length):=by unfold Hid;rw[ledS_length HIO.out,HIO.out.len]
 have NEW:Hid (Calls Try.prog 25 #[.slice sa o.length sc2,.int .i64 most] wc fun e w'=>∃y P,e=.returned (.tuple #[.pointer (some ⟨y,0,none⟩),.int .i64 0])∧RA w' y (ledS S o) most [] P∧(∀k,P k→wc.heap.size≤k)∧Below wc.heap.size wc w'):=by
  have:=newD_any sa sc2 (ledS S o) most wc (by rw[LLE.out];exact hol) (row_zat OW.out).1
  rw[LLE.out] at this
  refine this.mono (fun e w' hh=>?_)
  obtain⟨⟨_,_,_,y,P,h1,h2,h3⟩|⟨h1,_⟩,h4⟩:=hh
  ·exact⟨y,P,h1,h2,h3,h4⟩
  ·exact absurd ⟨ledS_ok HS.out HIO.out,HM.out.1,HM.out.2.1⟩ h1
 go_upto_region 17 with(go_at_call 25;refine NEW.out.mono ?_;clear NEW;rintro e w5 ⟨y,P5,rfl,ra5,new5,x5⟩;have RA5:=hide ra5;have NEW5:=hide new5;have X5:=hide x5;clear ra5 new5 x5)
 have SZW:Hid (w.heap.size≤w4.heap.size∧w4.heap.size≤wc.heap.size):=⟨X4.out.size,BL.out.size⟩
 have X45:=hide (bt X4.out BL.out (Nat.le_refl _))
 have ROWC:=hide (own_below ROWW.out BL.out)
 have OWNC:=hide (own_below OWN2.out BL.out)
 have KIDC:Hid (∀y∈R2,ZBk wc y.kb y.ks):=fun y hy=>(KID2.out y hy).below BL.out
 have OWNL:Hid (∀j,(Value.slice na R2.length nc).ownBlock=some j→j<wc.heap.size):=fun j hj=>by have:=(World.ownsRow.lt OWN2.out j hj).2;have:=BL.out.size;omega
 have KIDL:Hid (∀y∈R2,y.kb<wc.heap.size):=fun y hy=>by have:=(KID2.out y hy).lt;have:=BL.out.size;omega
 have R2L:Hid (R2.length=N2.length):=by unfold Hid;rw[←HN2.out,List.length_map]
 have R2S:R2.length≤8192:=by have h1:=OK2.out.few;have h2:=R2L.out;have h3:=HM.out.2.1;omega
 clear OWN2 KID2 BL OW ZS4
 go_upto_block 2 with fail
 go_wp2
 go_loopw [21] (fun v21 wr=>∃(k:Nat) (P2:Nat→Prop),v21=.int .i64 (k:Int)∧k≤R2.length∧Hid (RA wr y (ledS S o) most (N2.take k) P2)∧Hid (∀j,P2 j→wc.heap.size≤j)∧Hid (Below wc.heap.size wc wr)) (fun v _=>R2.length-(RowKit.intOf v).toNat)
 case atStart=>exact⟨0,P5,rfl,Nat.zero_le _,RA5,NEW5,X5⟩
 case round=>
  obtain⟨k,P2,rfl,hk,RAK,NEWK,BLK⟩:=hrel
  clear RA5 NEW5
  by_cases hlt:k<R2.length
  ·have hlt':(k:Int)<(R2.length:Int):=by omega
   obtain⟨ng,hng⟩:=HNP.out (by omega)
   subst hng
   have CC:Hid (∀V,Below wc.heap.size wc V→V.cell? ⟨ng,k*2,none⟩=some (.int .i64 (R2[k]).lv)∧V.cell? ⟨ng,k*2+1,none⟩=some (.slice (some ⟨(R2[k]).kb,0,none⟩) (R2[k]).ks.length (R2[k]).kc)):=fun V hV=>by
    have own:=own_below OWNC.out hV
    obtain⟨g1,g2⟩:=ndC_get R2 k hlt
    exact⟨(World.ownsRow.cellAt own (k*2) (by omega)).trans g1,(World.ownsRow.cellAt own (k*2+1) (by omega)).trans g2⟩
   have hkn:k<N2.length:=by rw[←R2L.out];exact hlt
   have hnd:N2[k]=((R2[k]).lv,(R2[k]).ks):=by
    have h1:N2[k]? =some ((R2[k]).lv,(R2[k]).ks):=by rw[←HN2.out,List.getElem?_map,List.getElem?_eq_getElem hlt];rfl
    rw[List.getElem?_eq_getElem hkn] at h1
    exact Option.some.inj h1
   have MKK:Hid (∀V,Below wr.heap.size wr V→Calls Try.prog 28 #[.pointer (some ⟨y,0,none⟩),.int .i64 (R2[k]).lv,.slice (some ⟨(R2[k]).kb,0,none⟩) (R2[k]).ks.length (R2[k]).kc] V fun e w'=>∃f er P',e=.returned (.tuple #[.int .i64 f,.int .i64 er])∧RA w' y (ledS S o) most (N2.take (k+1)) P'∧(∀j,P' j→wc.heap.size≤j)∧Below wc.heap.size wc w'):=fun V hV=>by
    have hBV:Below wc.heap.size wc V:=BLK.out.trans (hV.mono BLK.out.size)
    have hzk:ZBk V (R2[k]).kb (R2[k]).ks:=(KIDC.out _ (List.getElem_mem hlt)).below hBV
    have hm:=mk_next OK2.out hkn
    rw[hnd] at hm
    have hln:(R2[k]).ks.length≤140737488351232:=by
     have h1:=(OK2.out.each k hkn).1
     rw[hnd] at h1
     exact h1.few OK2.out.sz
    refine((RAK.out.below hV).make (R2[k]).lv (some ⟨(R2[k]).kb,0,none⟩) (R2[k]).kc (R2[k]).ks hln hzk.at).mono (fun e w' hx=>?_)
    obtain⟨f,er,N',rfl,hp,P',h1,h2,h3,_⟩:=hx
    obtain⟨_,_,rfl⟩:=MkP.one RAK.out.ok.nod hp hm
    refine⟨f,er,P',rfl,h1,fun j hj=>?_,hBV.trans (h2.below hBV.size (fun j hj=>NEWK.out j hj))⟩
    rcases h3 j hj with h4|h4
    ·exact NEWK.out j h4
    ·have:=hBV.size;omega
   clear hnd RAK NEWK
   generalize (R2[k]).lv=lv at *
   generalize (R2[k]).ks.length=kl at *
   generalize (R2[k]).kb=kb at *
   generalize (R2[k]).kc=kc at *
   have XD:Hid (Below wr.heap.size wr wr.drew):=(Below.refl _ wr).drew
   go_upto_region 20 with fail
   refine wp_unt (S:=fun V=>V.cell? ⟨ng,k*2,none⟩=some (.int .i64 lv)∧V.cell? ⟨ng,k*2+1,none⟩=some (.slice (some ⟨kb,0,none⟩) kl kc)) 11 (by kernel_rfl) ?_
   generalize wr.drew=wd at *
   have HS0:=hide (CC.out wd (BLK.out.trans (XD.out.mono BLK.out.size)))
   have MK2:=hide (MKK.out wd XD.out)
   refine UntH.tk 0 rfl 75 HS0.out (fun w' ⟨q0,q1⟩=>by go_simp;first|done|rfl) ?_
   refine UntH.tk 1 rfl 76 HS0.out (fun w' ⟨q0,q1⟩=>by go_simp;first|done|rfl) ?_
   refine UntH.tk 2 rfl 77 HS0.out (fun w' ⟨q0,q1⟩=>by go_simp;first|done|rfl) ?_
   refine UntH.tk 3 rfl 78 HS0.out (fun w' ⟨q0,q1⟩=>by go_simp;first|done|rfl) ?_
   refine UntH.tk 4 rfl 79 HS0.out (fun w' ⟨q0,q1⟩=>by go_simp;first|done|rfl) ?_
   refine UntH.tk 5 rfl 80 HS0.out (fun w' ⟨q0,q1⟩=>by go_simp;first|done|rfl) ?_
   refine UntH.tk 6 rfl 81 HS0.out (fun w' ⟨q0,q1⟩=>by go_simp;first|done|rfl) ?_
   refine UntH.tk 7 rfl 82 HS0.out (fun w' ⟨q0,q1⟩=>by go_simp;first|done|rfl) ?_
   refine UntH.tk 8 rfl 83 HS0.out (fun w' ⟨q0,q1⟩=>by go_simp;first|done|rfl) ?_
   refine UntH.tk 9 rfl 84 HS0.out (fun w' ⟨q0,q1⟩=>by go_simp;first|done|rfl) ?_
   refine UntH.tk 10 rfl 85 HS0.out (fun w' ⟨q0,q1⟩=>by go_simp;first|done|rfl) ?_
   try simp only[Act.put,List.setIfInBounds_toArray,List.set_cons_zero,List.set_cons_succ]
   refine UntH.last (by kernel_rfl) rfl (by kernel_rfl) (by kernel_rfl) (fun K hK=>?_)
   go_simp
   refine MK2.out.mono ?_
   clear MK2
   rintro e w6 ⟨f,er,P6,rfl,ra6,new6,bl6⟩
   have RA6:=hide ra6
   have NEW6:=hide new6
   have BL6:=hide bl6
   clear ra6 new6 bl6
   refine hK _ _ ?_
   clear hK K HS0 CC MKK XD BLK
   go_wp2
   go_roundw
   case rel=>exact⟨k+1,P6,by go_num,by omega,RA6,NEW6,BL6⟩
   case measure=>simp[RowKit.intOf];omega
  ·have hlt':¬(k:Int)<(R2.length:Int):=by omega
   have FIN:Hid (RbD S o rs most N w (.returned (.tuple #[.pointer (some ⟨y,0,none⟩),.slice oa rs.length oc2,.int .i64 0])) wr):=by
    have hs:=SZW.out
    refine⟨X45.out.trans (BLK.out.mono X45.out.size),.inl ⟨y,oa,oc2,outs,N2,P2,HM.out,HIO.out,rfl,HF2.out,?_,fun j hj=>by have:=NEWK.out j hj;omega,own_below ROWC.out BLK.out,fun j hj hp=>?_⟩⟩
    ·have:=RAK.out
     rw[List.take_of_length_le (by rw[←R2L.out];omega)] at this
     exact this
    ·have h1:=(World.ownsRow.lt ROWW.out j hj).2
     have:=NEWK.out j hp
     omega
   clear RAK NEWK BLK
   go_wp2
   refine bodyPost_ret (v:=.tuple #[.pointer (some ⟨y,0,none⟩),.slice oa rs.length oc2,.int .i64 0]) (by simp[results,Try.results36,go_sem];try rfl) rfl ?_
   exact FIN.out
end
section
variable {w:World} {x:Nat} {S o rs:List Int} {M0 most:Int} {N:List Nd} {Q:Nat→Prop}
theorem IoL.cn {e:Ending} {w':World} (h:IoL S o most N rs w e w'):∃na nl nc oa oc fits,e=.returned (.tuple #[.slice na nl nc,.slice oa rs.length oc,.bool fits])∧Below w.heap.size w w'∧(if fits=true then(nl:Int) else most+1)=cN S (rs.map fun f p=>sayR N p f) most o:=by
 obtain⟨nv,oa,oc,fits,outs,rfl,hb,row,res⟩:=h
 rcases res with⟨rfl,R2,N2,own,e1,_,hf,_⟩|⟨rfl,he,n2,xs,own⟩
 ·obtain⟨na,nc,rfl,_⟩:=own_shape own
  refine⟨na,R2.length,nc,oa,oc,true,rfl,hb,?_⟩
  unfold cN
  rw[if_pos rfl,hf,if_pos rfl,←e1,List.length_map]
 ·obtain⟨na,nc,rfl,_⟩:=own_shape own
  refine⟨na,n2,nc,oa,oc,false,rfl,hb,?_⟩
  unfold cN
  rw[if_neg (by decide),if_neg he]
def BsD (S rs:List Int) (most:Int) (N:List Nd) (w:World) (e:Ending) (w':World):Prop:=Below w.heap.size w w'∧
 (((0≤most∧most≤8192∧∀f∈rs,hasR N f)∧∃g c,e=.returned (.tuple #[.slice (some g) S.length c,.int .i64 0])∧ZAt w' (some g) (bsO (cN S (rs.map fun f p=>sayR N p f) most) (lows S.length) S.length)∧w.heap.size≤g.block)∨
  (¬(0≤most∧most≤8192∧∀f∈rs,hasR N f)∧e=.returned (.tuple #[.slice none 0 0,.int .i64 1])))
end
def RbC (S o rs:List Int) (most:Int) (N:List Nd) (w:World) (e:Ending) (w':World):Prop:=Below w.heap.size w w'∧
 ((∃c g gc outs N2 P,(0≤most∧most≤8192∧∀f∈rs,hasR N f)∧IsOrd S o∧e=.returned (.tuple #[.pointer (some ⟨c,0,none⟩),.slice (some ⟨g,0,none⟩) rs.length gc,.int .i64 0])∧foldF S most (rs.map fun f p=>sayR N p f) o=(outs,0,N2)∧RwZ w' g outs∧CA w' c (ledS S o) most N2 N2.length P∧(∀k,P k→w.heap.size≤k)∧¬P g∧w.heap.size≤g∧gc=rs.length)∨
  ((0≤most∧most≤8192∧∀f∈rs,hasR N f)∧IsOrd S o∧e=.returned (.tuple #[.pointer none,.slice none 0 0,.int .i64 2])∧(foldF S most (rs.map fun f p=>sayR N p f) o).2.1≠0)∨
  (¬((0≤most∧most≤8192∧∀f∈rs,hasR N f)∧IsOrd S o)∧e=.returned (.tuple #[.pointer none,.slice none 0 0,.int .i64 1])))
section
variable {w:World} {a:Nat} {S:List Int} {M:Int} {N:List Nd} {m:Nat} {PA:Nat→Prop} {rs o:List Int} {most:Int}
set_option maxRecDepth 100000 in
set_option maxHeartbeats 4000000 in
theorem rebuildC_any (ao oo:Option Addr) (cap oc:Nat) (hA:CA w a S M N m PA) (hz:ZAt w ao rs) (hzo:ZAt w oo o) (hl:rs.length≤268435456) (hol:o.length≤268435456) (hm:(∀f∈rs,hasR N f)→Sml S (rs.map fun f p=>sayR N p f)):
 Calls Try.prog 12 #[.pointer (some ⟨a,0,none⟩),.slice ao rs.length cap,.slice oo o.length oc,.int .i64 most] w fun e w'=>RbC S o rs most N w e w':=by
 have hS:=hA.ok.sz
 have hS12:S.length≤12:=hS.le
 by_cases hmay:0≤most∧most≤8192∧∀f∈rs,hasR N f
 ·by_cases hord:IsOrd S o
  ·refine(rebuild_any ao oo cap oc hA hz hzo hmay.2.2 hl hord hmay.1 hmay.2.1 (hm hmay.2.2)).mono (fun e w' ⟨hor,hb,R,L,G⟩=>⟨hb,?_⟩)
   rcases hor with⟨he,c,g,gc,P,h1,h2,h3,h4,h5,h6,h7⟩|⟨he,h1⟩
   ·exact .inl ⟨c,g,gc,_,_,P,hmay,hord,h1,by rw[←he],h2,h3,h4,h5,h6,h7⟩
   ·rcases fold_err hS hord G hmay.1 hmay.2.1 with h2|h2
    ·exact absurd h2 he
    ·rw[h2] at h1
     exact .inr (.inl ⟨hmay,hord,h1,he⟩)
  ·have MB:Hid (Calls Try.prog 29 #[.pointer (some ⟨a,0,none⟩),.slice ao rs.length cap,.int .i64 most] w fun e w'=>e=.returned (.bool true)∧Below w.heap.size w w'):=(mayBe_any ao cap rs most (by omega) hz hA).mono (fun e w' ⟨⟨b,e1,hb⟩,hx⟩=>⟨by rw[e1,hb.2 hmay],hx⟩)
   have SS:Hid (∀V,Below w.heap.size w V→Calls Try.prog 17 #[.pointer (some ⟨a,0,none⟩)] V fun e w'=>(∃g c,e=.returned (.slice (some ⟨g,0,none⟩) S.length c))∧Below V.heap.size V w'):=fun V hV=>((hA.below hV).sizes).mono (fun e w' ⟨⟨g,c,e1,_⟩,hx⟩=>⟨⟨g,c,e1⟩,hx⟩)
   have IO:Hid (∀V,Below w.heap.size w V→Calls Try.prog 30 #[.slice oo o.length oc,.int .i64 (S.length:Int)] V fun e w'=>e=.returned (.bool false)∧Below V.heap.size V w'):=fun V hV=>(isOrder_any oo oc o S.length hS12 (by omega) (hzo.below hV)).mono (fun e w' ⟨⟨b,e1,hb⟩,hx⟩=>⟨by rw[e1,Bool.eq_false_iff.2 (fun hbt=>hord (ord_of (hb.1 hbt)))],hx⟩)
   have FIN:Hid (∀wq,Below w.heap.size w wq→RbC S o rs most N w (.returned (.tuple #[.pointer none,.slice none 0 0,.int .i64 1])) wq):=fun wq hq=>⟨hq,.inr (.inr ⟨fun h=>hord h.2,rfl⟩)⟩
   clear hA hz hzo hm hmay hord hS
   go_enter Try.func12,Try.ntmps12
   go_wp2_with (first
    |(go_at_call 29;refine MB.out.mono ?_;rintro e w1 ⟨rfl,x1⟩;have X1:=hide x1;clear x1)
    |(go_at_call 17;refine(SS.out _ X1.out).mono ?_;rintro e w2 ⟨⟨sg,sc,rfl⟩,x2⟩;have X2:=hide (bt X1.out x2 (Nat.le_refl _));clear x2)
    |(go_at_call 30;refine(IO.out _ X2.out).mono ?_;rintro e w3 ⟨rfl,x3⟩;have X3:=hide (bt X2.out x3 (Nat.le_refl _));clear x3))
   refine bodyPost_ret (v:=.tuple #[.pointer none,.slice none 0 0,.int .i64 1]) (by simp[results,Try.results12,go_sem];try rfl) rfl ?_
   exact FIN.out _ X3.out
 ·have MB:Hid (Calls Try.prog 29 #[.pointer (some ⟨a,0,none⟩),.slice ao rs.length cap,.int .i64 most] w fun e w'=>e=.returned (.bool false)∧Below w.heap.size w w'):=(mayBe_any ao cap rs most (by omega) hz hA).mono (fun e w' ⟨⟨b,e1,hb⟩,hx⟩=>⟨by rw[e1,Bool.eq_false_iff.2 (fun hbt=>hmay (hb.1 hbt))],hx⟩)
  have FIN:Hid (∀wq,Below w.heap.size w wq→RbC S o rs most N w (.returned (.tuple #[.pointer none,.slice none 0 0,.int .i64 1])) wq):=fun wq hq=>⟨hq,.inr (.inr ⟨fun h=>hmay h.1,rfl⟩)⟩
  clear hA hz hzo hm hmay hS
  go_enter Try.func12,Try.ntmps12
  go_wp2_with (go_at_call 29;refine MB.out.mono ?_;rintro e w1 ⟨rfl,x1⟩;have X1:=hide x1;clear x1)
  refine bodyPost_ret (v:=.tuple #[.pointer none,.slice none 0 0,.int .i64 1]) (by simp[results,Try.results12,go_sem];try rfl) rfl ?_
  exact FIN.out _ X1.out
theorem mayBeN_any (v:Value) (k:Int):Calls Try.prog 29 #[.pointer none,v,.int .i64 k] w fun e w'=>e=.returned (.bool false)∧w'=w:=by
 go_enter Try.func29,Try.ntmps29
 go_wp2
 go_ret
 exact⟨rfl,rfl⟩
set_option maxRecDepth 100000 in
theorem rebuildN_any (v u:Value) (k:Int):Calls Try.prog 12 #[.pointer none,v,u,.int .i64 k] w fun e w'=>e=.returned (.tuple #[.pointer none,.slice none 0 0,.int .i64 1])∧w'=w:=by
 have MB:=hide (mayBeN_any (w:=w) v k)
 go_enter Try.func12,Try.ntmps12
 go_wp2_with (go_at_call 29;refine MB.out.mono ?_;rintro e w1 ⟨rfl,h⟩;rw[h];clear h)
 refine bodyPost_ret (v:=.tuple #[.pointer none,.slice none 0 0,.int .i64 1]) (by simp[results,Try.results12,go_sem];try rfl) rfl ?_
 exact⟨rfl,rfl⟩
theorem addX_any (n m:Int) (h0:0≤n) (h1:n≤1125899906842624) (h2:0≤m) (h3:m≤1125899906842624):
 Calls Try.prog 6 #[.int .i64 n,.int .i64 m] w fun e w'=>(∃s,e=.returned (.int .i64 s)∧0≤s∧s≤2147483648∧(s≤2147483647→s=n+m))∧w'=w:=by
 have e1:IntKind.i64.wrap (2147483647-n)=2147483647-n:=by simp[IntKind.wrap,IntKind.bits,IntKind.signed];omega
 have e2:IntKind.i64.wrap (n+m)=n+m:=by simp[IntKind.wrap,IntKind.bits,IntKind.signed];omega
 by_cases hg:2147483647-n<m
 ·go_enter Try.func6,Try.ntmps6
  go_wp2
  go_ret
  exact⟨⟨_,rfl,by decide,by decide,fun h=>absurd h (by decide)⟩,rfl⟩
 ·go_enter Try.func6,Try.ntmps6
  go_wp2
  go_ret
  exact⟨⟨_,rfl,by omega,by omega,fun _=>rfl⟩,rfl⟩
end
section
variable {w:World} {L:List Int}
set_option maxRecDepth 100000 in
set_option maxHeartbeats 4000000 in
theorem lent_any (ao:Option Addr) (cap:Nat) (hl:L.length≤268435456) (hz:ZAt w ao L):
 Calls Try.prog 35 #[.slice ao L.length cap] w fun e w'=>∃g,e=.returned (.slice (some ⟨g,0,none⟩) (L.length+2) (L.length+2))∧RwZ w' g (L++[-77,-77])∧w.heap.size≤g∧Below w.heap.size w w':=by
 have ew:IntKind.i64.wrap ((L.length:Int)+2)=((L.length+2:Nat):Int):=by simp[IntKind.wrap,IntKind.bits,IntKind.signed];omega
 have ew1:IntKind.i64.wrap ((L.length:Int)+1)=((L.length+1:Nat):Int):=by simp[IntKind.wrap,IntKind.bits,IntKind.signed];omega
 obtain⟨nn,hnn⟩:∃nn,L.length+2=nn:=⟨_,rfl⟩
 obtain⟨n1,hn1⟩:∃n1,L.length+1=n1:=⟨_,rfl⟩
 rw[hnn] at ew
 rw[hn1] at ew1
 have hmk:=make_nums nn (by omega)
 have X1:Hid (Below w.heap.size w (w.alloc (.cells (zC (List.replicate nn 0)).toArray 3))):=al (Below.refl _ _) _
 have Z1:=hide (RwZ.made w (List.replicate nn 0))
 have HZ:=hide hz
 have HNN:=hide hnn
 have HN1:=hide hn1
 have i1:(L.length:Int)<(nn:Int):=by omega
 have i2:(n1:Int)<(nn:Int):=by omega
 have OC:Hid (∀u∈zC L,u.oneCell'=true):=fun u hu=>by
  obtain⟨z,_,rfl⟩:=List.mem_map.1 hu
  rfl
 clear hz hnn hn1
 go_enter Try.func35,Try.ntmps35
 go_upto_region 2 with fail
 clear hmk
 generalize w.alloc (.cells (zC (List.replicate nn 0)).toArray 3)=w1 at *
 obtain⟨g,hg⟩:∃g,w.heap.size=g:=⟨_,rfl⟩
 have HG:=hide hg
 rw[hg] at Z1 ⊢
 clear hg
 have LZ:Hid ((zC L).length=Nat.min L.length nn):=by unfold Hid;have:=HNN.out;simp only[zC,List.length_map];exact(Nat.min_eq_left (by omega)).symm
 have LF:Hid (0+(zC L).length≤(zC (List.replicate nn 0)).length):=by unfold Hid;have:=HNN.out;simp only[zC,List.length_map,List.length_replicate];omega
 have SP:Hid (splice (zC (List.replicate nn 0)) 0 (zC L)=zC (L++[0,0])):=by
  have h1:List.drop (zC L).length (zC (List.replicate nn 0))=zC [0,0]:=by
   have:=HNN.out
   simp only[zC,List.length_map,List.map_replicate,List.drop_replicate]
   rw[show nn-L.length=2 by omega]
   rfl
  unfold Hid splice
  rw[List.take_zero,List.nil_append,Nat.zero_add,h1]
  simp[zC]
 have POS:Hid (0<(zC L).length→(some (⟨g,0,none⟩:Addr)=some ⟨g,0,none⟩)∧∃ad,ao=some ad∧∀j v,(zC L)[j]? =some v→w1.cell? (ad.add j)=some v):=fun h0=>by
  refine⟨rfl,?_⟩
  rcases HZ.out.below X1.out with h1|⟨b1,off,h1,_⟩
  ·rw[h1] at h0;simp[zC] at h0
  ·refine⟨_,h1,?_⟩
   have:=HZ.out.below X1.out
   rw[h1] at this
   exact this.cells
 obtain⟨i3,hi3,_,hz31,_⟩:=info_parts Try.info3
 have I3:(Try.prog.info? 3).map (·.size)=some 1:=by rw[hi3];exact congrArg some hz31
 have HGB:w.heap.size≤g:=Nat.le_of_eq HG.out
 go_upto_region 3 with(refine wpList_copy_splice rfl (.tmp 8) (.tmp 9) 22 22 rfl 3 Try.underlying22 I3 (some ⟨g,0,none⟩) ao nn nn L.length cap rfl rfl g 0 (zC (List.replicate nn 0)) 3 Z1.out (zC L) LZ.out POS.out LF.out OC.out w.heap.size w X1.out HGB ?_;intro w2 h1 h2;have Z2:=h1;have X2:=hide h2;clear h1 h2)
 have Z3:Hid (RwZ w2 g (L++[0,0])):=by
  have:=Z2.out
  rw[SP.out] at this
  exact this
 have l3:(L++[(0:Int),0]).length=nn:=by rw[←HNN.out];simp
 have c1:=Z3.out.cell (k:=L.length) (by rw[l3];omega)
 have f1:=Z3.out.fro L.length
 have Z4:=hide (Z3.out.set L.length (-77))
 have X4:Hid (Below w.heap.size w (w2.setCell ⟨g,L.length,none⟩ (.int .i64 (-77)))):=X2.out.setCell (show w.heap.size≤g from HGB) _
 clear Z1 Z2 X1 LZ LF SP POS I3 OC HZ hi3 hz31 ew
 go_upto_region 4 with fail
 clear Z3 X2 c1 f1
 generalize w2.setCell ⟨g,L.length,none⟩ (.int .i64 (-77))=w3 at *
 have l4:((L++[(0:Int),0]).set L.length (-77)).length=nn:=by rw[List.length_set,l3]
 have c2:=Z4.out.cell (k:=n1) (by rw[l4];omega)
 have f2:=Z4.out.fro n1
 have Z5:=hide (Z4.out.set n1 (-77))
 have X5:Hid (Below w.heap.size w (w3.setCell ⟨g,n1,none⟩ (.int .i64 (-77)))):=X4.out.setCell (show w.heap.size≤g from HGB) _
 have FIN:Hid (((L++[(0:Int),0]).set L.length (-77)).set n1 (-77)=L++[-77,-77]):=by
  unfold Hid
  rw[←HN1.out,List.set_append_right _ _ (Nat.le_refl _),Nat.sub_self,List.set_append_right _ _ (by omega),show L.length+1-L.length=1 by omega]
  rfl
 go_upto_region 5 with fail
 clear Z4 X4 c2 f2
 generalize w3.setCell ⟨g,n1,none⟩ (.int .i64 (-77))=w4 at *
 go_wp2
 go_ret
 exact⟨g,by rw[HNN.out];rfl,by have:=Z5.out;rw[FIN.out] at this;exact this,HGB,X5.out⟩
end
end Go.Proofs.Ytnddhkhmbjeefaa

