/-
  The document's Best by its contract. Conditions: as inOrder's.
-/
import Derived.Deep.DeepCutAuto
import Derived.Deep.CutBlock
import Derived.Test.YtnddhkhmbjeefaaB33
import Derived.Test.YtnddhkhmbjeefaaB40
import Derived.Test.YtnddhkhmbjeefaaB48
import Derived.Test.YtnddhkhmbjeefaaB32
import Derived.Laws.CopyOwn
import Derived.Test.YtnddhkhmbjeefaaB43
import Derived.Test.YtnddhkhmbjeefaaB37
namespace Go.Proofs.Ytnddhkhmbjeefaa
open Go.RowKit Go.Lib Go.Maps
section
variable {w:World} {x:Nat} {S o rs:List Int} {M0 most:Int} {N:List Nd} {Q:Nat→Prop}
theorem IoL.cn {e:Ending} {w':World} (h:IoL S o most N rs w e w'):∃na nl nc oa oc fits,e=.returned (.tuple #[.slice na nl nc,.slice oa rs.length oc,.bool fits])∧Below w.heap.size w w'∧(if fits=true then(nl:Int) else most+1)=cN S (rs.map fun f p=>sayR N p f) most o:=by
 obtain⟨nv,oa,oc,fits,outs,rfl,hb,row,res⟩:=h
 rcases res with⟨rfl,R2,N2,own,e1,_,hf,_⟩|⟨rfl,he,n2,xs,own⟩
 ·obtain⟨na,nc,rfl,_⟩:=own_shape own
  refine⟨na,R2.length,nc,oa,oc,true,rfl,hb,?_⟩
  unfold cN
  rw[if_pos rfl,hf,if_pos rfl,←e1,List.length_map]
 ·obtain⟨na,nc,rfl,_⟩:=own_shape own
  refine⟨na,n2,nc,oa,oc,false,rfl,hb,?_⟩
  unfold cN
  rw[if_neg (by decide),if_neg he]
def BsD (S rs:List Int) (most:Int) (N:List Nd) (w:World) (e:Ending) (w':World):Prop:=Below w.heap.size w w'∧
 (((0≤most∧most≤8192∧∀f∈rs,hasR N f)∧∃g c,e=.returned (.tuple #[.slice (some g) S.length c,.int .i64 0])∧ZAt w' (some g) (bsO (cN S (rs.map fun f p=>sayR N p f) most) (lows S.length) S.length)∧w.heap.size≤g.block)∨
  (¬(0≤most∧most≤8192∧∀f∈rs,hasR N f)∧e=.returned (.tuple #[.slice none 0 0,.int .i64 1])))
set_option maxRecDepth 100000 in
set_option maxHeartbeats 8000000 in
theorem bestD_any (hS:SzOk S) (h4:∀x∈S,x≤4) (ra:Option Addr) (rc:Nat) (hA:RA w x S M0 N Q) (hz:ZAt w ra rs) (hl:rs.length≤268435456) (hsz:rs.length*tr S.length+4*tr S.length*8194≤1649267441664):
 Calls Try.prog 41 #[.pointer (some ⟨x,0,none⟩),.slice ra rs.length rc,.int .i64 most] w fun e w'=>BsD S rs most N w e w':=by
 obtain⟨i3,hi3,hz30,hz31,hz32⟩:=info_parts Try.info3
 have HA:=hide hA
 have HZ:=hide hz
 have HSZ:=hide hsz
 have HS:=hide hS
 have H4:=hide h4
 clear hA hz hsz h4
 have MAY:=hide (mayD_any (w:=w) ra rc rs most (by omega) HZ.out HA.out)
 by_cases hmay:¬(0≤most∧most≤8192∧∀f∈rs,hasR N f)
 ·have FIN:Hid (∀wq,Below w.heap.size w wq→BsD S rs most N w (.returned (.tuple #[.slice none 0 0,.int .i64 1])) wq):=fun wq hq=>⟨hq,.inr ⟨hmay,rfl⟩⟩
  have HM:=hide hmay
  clear hmay
  go_enter Try.func41,Try.ntmps41
  go_upto_region 2 with(go_at_call 64;refine MAY.out.mono ?_;clear MAY;rintro e w1 ⟨⟨b1,rfl,hb1⟩,x1⟩;have X1:=hide x1;obtain rfl:b1=false:=(Bool.eq_false_iff.2 fun e=>HM.out (hb1.1 e));clear hb1 x1)
  go_wp2
  go_ret2
  exact FIN.out _ X1.out
 have HM:=hide (Classical.not_not.1 hmay)
 clear hmay
 have SZD:Hid (∀V,Below w.heap.size w V→Calls Try.prog 11 #[.pointer (some ⟨x,0,none⟩)] V fun e w'=>∃g c,e=.returned (.slice (some ⟨g,0,none⟩) S.length c)∧ZBk w' g S∧V.heap.size≤g∧Below V.heap.size V w'):=fun V hV=>sizesD_any (HA.out.below hV)
 have INO:Hid (∀V o oo oc,Below w.heap.size w V→IsOrd S o→ZAt V oo o→Calls Try.prog 66 #[.pointer (some ⟨x,0,none⟩),.slice ra rs.length rc,.slice oo S.length oc,.int .i64 most] V fun e w'=>∃na nl nc oa oc fits,e=.returned (.tuple #[.slice na nl nc,.slice oa rs.length oc,.bool fits])∧Below V.heap.size V w'∧(if fits=true then(nl:Int) else most+1)=cN S (rs.map fun f p=>sayR N p f) most o):=fun V o oo oc hV ho hzo=>by
  have:=inOrder_any (w:=V) HS.out ho H4.out HM.out.1 HM.out.2.1 ra oo rc oc (HA.out.below hV) (HZ.out.below hV) hzo HM.out.2.2 hl HSZ.out
  rw[ho.len] at this
  exact this.mono (fun e w' h=>h.cn)
 have FIN:Hid (∀wq g c,Below w.heap.size w wq→ZAt wq (some g) (bsO (cN S (rs.map fun f p=>sayR N p f) most) (lows S.length) S.length)→w.heap.size≤g.block→BsD S rs most N w (.returned (.tuple #[.slice (some g) S.length c,.int .i64 0])) wq):=fun wq g c hq hzq hg=>⟨hq,.inl ⟨HM.out,g,c,rfl,hzq,hg⟩⟩
 generalize cN S (rs.map fun f p=>sayR N p f) most=C at *
 have hm9:0≤most∧most≤8192:=⟨HM.out.1,HM.out.2.1⟩
 have ewm:IntKind.i64.wrap (most+1)=most+1:=by simp[IntKind.wrap,IntKind.bits,IntKind.signed];omega
 have hS12:S.length≤12:=HS.out.le
 have hS0:1≤S.length:=HS.out.ge
 go_enter Try.func41,Try.ntmps41
 go_upto_region 4 with(go_at_call 64;refine MAY.out.mono ?_;clear MAY;rintro e w1 ⟨⟨b1,rfl,hb1⟩,x1⟩;have X1:=hide x1;obtain rfl:b1=true:=hb1.2 HM.out;clear hb1 x1)
 clear HA HZ HSZ H4 HM
 go_upto_block 0 with fail
 go_cut [9] (fun v9 wx=>∃ca cc,v9=.slice ca S.length cc∧Hid (ZAt wx ca (lows S.length))∧Hid (Below w.heap.size w wx)∧Hid (∀k,ca.map Addr.block=some k→w.heap.size≤k))
 case first=>
  go_wp2
  go_loopw [9,10] (fun v9 v10 wr=>∃(k:Nat) (ca:Option Addr) (cc:Nat),v9=.slice ca k cc∧v10=.int .i64 (k:Int)∧k≤S.length∧Hid (wr.ownsRow w.heap.size 3 1 (.slice ca k cc) k (zC (lows k)))∧Hid (Below w.heap.size w wr)) (fun _ v _=>S.length-(RowKit.intOf v).toNat)
  case atStart=>exact⟨0,none,0,rfl,rfl,Nat.zero_le _,World.ownsRow_nil _ _ _ _,X1⟩
  case round=>
   obtain⟨k,ca,cc,rfl,rfl,hk,OW,BL⟩:=hrel
   clear X1
   by_cases hlt:k<S.length
   ·have hlt':(k:Int)<(S.length:Int):=by omega
    go_upto_region 7 with(first
     |(go_at_call 11;refine(SZD.out _ BL.out).mono ?_;rintro e w5 ⟨sg,sc,rfl,_,_,x5⟩;have B5:Hid (Below w.heap.size w w5):=bt BL.out x5 (Nat.le_refl _);have YY:Hid (Below w5.heap.size w5 (w5.alloc (.cells #[.int .i64 (k:Int)] 3))):=al (Below.refl _ _) _;have ROW:=hide (own_below (own_below OW.out x5) YY.out);have SZ2:Hid (w.heap.size≤(w5.alloc (.cells #[.int .i64 (k:Int)] 3)).heap.size):=Nat.le_trans B5.out.size YY.out.size;clear x5)
     |(at_builtin;refine wpList_append_lies _ rfl (.tmp 34) (.tmp 36) 22 rfl w.heap.size 3 i3 (.int .i64 0) 1 8 Try.underlying22 hi3 hz30 hz31 hz32 rfl (by decide) _ k (zC (lows k)) rfl ROW.out ⟨w5.heap.size,0,none⟩ 1 1 [.int .i64 (k:Int)] rfl rfl (one_new w5 _ _) (by simp[Value.oneCell']) (by decide) (by unfold maxLen;omega) (by omega) SZ2.out _ rfl ?_;intro g8 cap8 w8 h1 h2 h3 h4;have BL8:Hid (Below w.heap.size w w8):=((B5.out.trans (YY.out.mono B5.out.size)).grown h2 SZ2.out (fun j hj=>(World.ownsRow.lt ROW.out j hj).1));have OW8:=hide h1;clear h1 h2 h3 h4))
    rw[show zC (lows k)++[.int .i64 (k:Int)]=zC (lows (k+1)) by simp[zC,lows,List.range_succ]] at OW8
    clear ROW SZ2 YY OW BL B5
    go_wp2
    go_roundw
    case rel=>exact⟨k+1,_,cap8,rfl,by go_num,by omega,OW8,BL8⟩
    case measure=>simp[RowKit.intOf];omega
   ·have hlt':¬(k:Int)<(S.length:Int):=by omega
    obtain rfl:k=S.length:=by omega
    go_wp2_with (go_at_call 11;refine(SZD.out _ BL.out).mono ?_;rintro e w5 ⟨sg,sc,rfl,_,_,x5⟩;have X5:=hide x5;clear x5)
    go_meet
    exact⟨ca,cc,rfl,own_zat (own_below OW.out X5.out),bt BL.out X5.out (Nat.le_refl _),fun k hk=>((row_zat OW.out).2 k hk).2.1⟩
 obtain⟨ca,cc,rfl,ZL,BL,FL⟩:=hcut
 clear X1
 generalize wc=w2 at *
 go_wp2
 go_loopw [9,11] (fun v9 v11 wr=>∃(v:Nat) (o:List Int) (ca:Option Addr) (cc:Nat),v9=.slice ca S.length cc∧v11=.int .i64 (v:Int)∧v≤S.length∧Hid (o=bsO C (lows S.length) v)∧Hid (IsOrd S o)∧Hid (ZAt wr ca o)∧Hid (Below w.heap.size w wr)∧Hid (∀k,ca.map Addr.block=some k→w.heap.size≤k)) (fun _ v _=>S.length-(RowKit.intOf v).toNat)
 case atStart=>exact⟨0,lows S.length,ca,cc,rfl,rfl,Nat.zero_le _,hide rfl,lows_ord S,ZL,BL,FL⟩
 case round=>
  obtain⟨v,o,ca,cc,rfl,rfl,hv,HO,ORD,ZO,BW,FW⟩:=hrel
  clear ZL BL FL
  by_cases hlt:v<S.length
  ·have hlt':(v:Int)<(S.length:Int):=by omega
   have hol:o.length=S.length:=ORD.out.len
   have hmem:(v:Int)∈o:=ORD.out.mem hlt
   obtain⟨f,hf⟩:∃f,o.idxOf (v:Int)=f:=⟨_,rfl⟩
   have hfl:f<S.length:=by rw[←hf,←hol];exact List.idxOf_lt_length_of_mem hmem
   have HFV:Hid (o.getD f 0=(v:Int)):=by unfold Hid;rw[←hf];exact idx_at hmem
   have HNE:Hid (∀j,j<f→o.getD j 0≠(v:Int)):=fun j hj=>idx_ne (by rw[hf];exact hj)
   have ERA:o.eraseIdx f=o.erase (v:Int):=by rw[←hf];exact erase_idx o
   have NXT:Hid (bsO C (lows S.length) (v+1)=if C (mv (o.erase (v:Int)) v (am (fun q=>C (mv (o.erase (v:Int)) v q)) S.length))<C (mv (o.erase (v:Int)) v f) then mv (o.erase (v:Int)) v (am (fun q=>C (mv (o.erase (v:Int)) v q)) S.length) else o):=by
    show nxtO C (bsO C (lows S.length) v) (v:Int)=_
    rw[←HO.out,nxtO_am hmem,hol,hf]
   have MVO:Hid (∀q,IsOrd S (mv (o.erase (v:Int)) v q)):=fun q=>by
    have h1:=mv_perm (o.erase (v:Int)) v q
    have h2:=mv_perm (o.erase (v:Int)) v (o.idxOf (v:Int))
    rw[mv_back hmem] at h2
    have hp:=h1.trans h2.symm
    exact⟨hp.nodup_iff.2 ORD.out.nod,by rw[hp.length_eq];exact hol,fun l hl=>ORD.out.rng l (hp.mem_iff.1 hl)⟩
   obtain⟨E,hE⟩:∃E,o.erase (v:Int)=E:=⟨_,rfl⟩
   rw[hE] at ERA NXT MVO
   have MVC:Hid (∀V q,Below wr.heap.size wr V→q<S.length→Calls Try.prog 72 #[.slice ca S.length cc,.int .i64 (f:Int),.int .i64 (q:Int)] V fun e w'=>∃so c,e=.returned (.slice so S.length c)∧ZAt w' so (mv E v q)∧Below V.heap.size V w'∧∀k,so.map Addr.block=some k→V.heap.size≤k):=fun V q hV hq=>by
    have:=moved_any (w:=V) ca cc f q (by rw[hol];exact hS12) (ZO.out.below hV) (by rw[hol];exact hfl) (by rw[hol];exact hq)
    rw[hol,ERA,HFV.out] at this
    exact this.mono (fun e w' ⟨so,c,h1,h2,h3⟩=>⟨so,c,h1,own_zat h2,h3,fun k hk=>((row_zat h2).2 k hk).2.1⟩)
   obtain⟨zb,zo,hca,hzb,-⟩:=ZO.out.get (show 0<o.length by omega)
   subst hca
   have ZC:Hid (∀j,j<S.length→wr.cell? ⟨zb,zo+j,none⟩=some (.int .i64 (o.getD j 0))):=fun j hj=>by
    obtain⟨b2,o2,e2,_,h2⟩:=ZO.out.get (show j<o.length by omega)
    cases e2
    exact h2
   clear hf hE ERA hmem hol HO
   generalize wr=wo at *
   go_upto_block 4 with fail
   go_cut [12] (fun v12 wx=>v12=.int .i64 (f:Int)∧Hid (wx=wo))
   case first=>
    go_wp2
    go_loopw [12] (fun v12 wr=>∃j:Nat,v12=.int .i64 (j:Int)∧j≤f∧Hid (wr=wo)) (fun v _=>f-(RowKit.intOf v).toNat)
    case atStart=>exact⟨0,rfl,Nat.zero_le _,hide rfl⟩
    case round=>
     obtain⟨j,rfl,hj,HW⟩:=hrel
     rw[HW.out]
     clear HW
     have hji:(j:Int)<(S.length:Int):=by omega
     have q1:=ZC.out j (by omega)
     by_cases hjf:j=f
     ·rw[show o.getD j 0=(v:Int) by rw[hjf];exact HFV.out] at q1
      have EJ:=hide hjf
      clear hjf
      go_wp2
      go_meet
      exact⟨by rw[EJ.out],by first|exact rfl|exact trivial⟩
     ·have hy:=HNE.out j (by omega)
      generalize o.getD j 0=y at *
      have hy1:¬y=(v:Int):=hy
      have hy2:(y==(v:Int))=false:=by simpa using hy
      clear hy
      go_wp2
      go_roundw
      case rel=>exact⟨j+1,by go_num,by omega,by first|exact rfl|exact trivial⟩
      case measure=>simp[RowKit.intOf];omega
   obtain⟨rfl,HW⟩:=hcut
   obtain rfl:wo=wc:=HW.out.symm
   clear HW ZC HNE HFV
   go_upto_block 6 with fail
   go_cut [13] (fun v13 wx=>∃ma mc,v13=.slice ma S.length mc∧Hid (wx.ownsRow wo.heap.size 3 1 (.slice ma S.length mc) S.length (zC ((List.range S.length).map (fun q=>C (mv E v q)))))∧Hid (Below wo.heap.size wo wx))
   case first=>
    go_wp2
    go_loopw [13,14] (fun v13 v14 wr=>∃(k:Nat) (ma:Option Addr) (mc:Nat),v13=.slice ma k mc∧v14=.int .i64 (k:Int)∧k≤S.length∧Hid (wr.ownsRow wo.heap.size 3 1 (.slice ma k mc) k (zC ((List.range k).map (fun q=>C (mv E v q)))))∧Hid (Below wo.heap.size wo wr)) (fun _ v _=>S.length-(RowKit.intOf v).toNat)
    case atStart=>exact⟨0,none,0,rfl,rfl,Nat.zero_le _,World.ownsRow_nil _ _ _ _,Below.refl _ _⟩
    case round=>
     obtain⟨k,ma,mc,rfl,rfl,hk,OM,BM⟩:=hrel
     by_cases hkl:k<S.length
     ·have hkl':(k:Int)<(S.length:Int):=by omega
      have MV1:=hide (MVC.out wr k BM.out hkl)
      go_upto_region 20 with(first
       |(go_at_call 72;refine MV1.out.mono ?_;clear MV1;rintro e w5 ⟨so,c5,rfl,zo5,x5,_⟩;have ZO5:=hide zo5;have X5:=hide x5;have B5:Hid (Below w.heap.size w w5):=bt BW.out (bt BM.out x5 (Nat.le_refl _)) (Nat.le_refl _);clear zo5 x5)
       |(go_at_call 66;refine(INO.out w5 _ so c5 B5.out (MVO.out k) ZO5.out).mono ?_;rintro e w6 ⟨na,nl,nc,oa,oc2,fits,rfl,x6,hcn⟩;have X6:=hide (bt X5.out x6 (Nat.le_refl _));have HCN:=hide hcn;clear x6 hcn))
      clear ZO5 X5 B5
      go_upto_if 73 with fail
      go_cut [18] (fun v18 wx=>v18=.int .i64 (C (mv E v k))∧Hid (wx=w6))
      case first=>
       cases fits
       ·have h1:most+1=C (mv E v k):=HCN.out
        go_wp2
        go_meet
        exact⟨by rw[←h1],by first|exact rfl|exact trivial⟩
       ·have h1:(nl:Int)=C (mv E v k):=HCN.out
        go_wp2
        go_meet
        exact⟨by rw[←h1],by first|exact rfl|exact trivial⟩
      obtain⟨rfl,HW⟩:=hcut
      obtain rfl:w6=wc:=HW.out.symm
      clear HW HCN
      have EQ:Hid (zC ((List.range k).map (fun q=>C (mv E v q)))++[.int .i64 (C (mv E v k))]=zC ((List.range (k+1)).map (fun q=>C (mv E v q)))):=by unfold Hid;simp[zC,List.range_succ]
      generalize C (mv E v k)=z at *
      have BM6:Hid (Below wo.heap.size wo w6):=bt BM.out X6.out (Nat.le_refl _)
      have YY:Hid (Below w6.heap.size w6 (w6.alloc (.cells #[.int .i64 z] 3))):=al (Below.refl _ _) _
      have ROW:=hide (own_below (own_below OM.out X6.out) YY.out)
      have SZ2:Hid (wo.heap.size≤(w6.alloc (.cells #[.int .i64 z] 3)).heap.size):=Nat.le_trans BM6.out.size YY.out.size
      go_upto_region 18 with(at_builtin;refine wpList_append_lies _ rfl (.tmp 76) (.tmp 78) 22 rfl wo.heap.size 3 i3 (.int .i64 0) 1 8 Try.underlying22 hi3 hz30 hz31 hz32 rfl (by decide) _ k (zC ((List.range k).map (fun q=>C (mv E v q)))) rfl ROW.out ⟨w6.heap.size,0,none⟩ 1 1 [.int .i64 z] rfl rfl (one_new w6 _ _) (by simp[Value.oneCell']) (by decide) (by unfold maxLen;omega) (by omega) SZ2.out _ rfl ?_;intro g8 cap8 w8 h1 h2 h3 h4;have BL8:Hid (Below wo.heap.size wo w8):=((BM6.out.trans (YY.out.mono BM6.out.size)).grown h2 SZ2.out (fun j hj=>(World.ownsRow.lt ROW.out j hj).1));have OW8:=hide h1;clear h1 h2 h3 h4)
      rw[EQ.out] at OW8
      clear ROW SZ2 YY OM BM BM6 X6 EQ
      go_wp2
      go_roundw
      case rel=>exact⟨k+1,_,cap8,rfl,by go_num,by omega,OW8,BL8⟩
      case measure=>simp[RowKit.intOf];omega
     ·have hkl':¬(k:Int)<(S.length:Int):=by omega
      obtain rfl:k=S.length:=by omega
      go_wp2
      go_meet
      exact⟨ma,mc,rfl,OM,BM⟩
   obtain⟨ma,mc,rfl,RM,BM⟩:=hcut
   clear INO
   generalize wc=wm at *
   obtain⟨mg,rfl⟩:∃mg,ma=some ⟨mg,0,none⟩:=by
    obtain⟨ao,c',e,hp⟩:=own_shape RM.out
    obtain⟨g',rfl⟩:=hp (by omega)
    injection e with e
    exact⟨g',e⟩
   obtain⟨g,hg⟩:∃g:Nat→Int,(fun q=>C (mv E v q))=g:=⟨_,rfl⟩
   have hg1:∀q,C (mv E v q)=g q:=fun q=>by rw[←hg]
   rw[hg] at RM NXT
   rw[hg1,hg1] at NXT
   have CM:Hid (∀V,Below wm.heap.size wm V→∀j,j<S.length→V.cell? ⟨mg,j,none⟩=some (.int .i64 (g j))):=fun V hV j hj=>by
    have:=World.ownsRow.cellAt (own_below RM.out hV) j (by omega)
    rw[this]
    simp[zC,List.getElem?_range hj]
   clear hg hg1 RM
   go_upto_block 8 with fail
   go_cut [19] (fun v19 wx=>v19=.int .i64 ((am g S.length:Nat):Int)∧Hid (Below wm.heap.size wm wx))
   case first=>
    go_wp2
    go_loopw [19,20] (fun v19 v20 wr=>∃k:Nat,v19=.int .i64 ((am g k:Nat):Int)∧v20=.int .i64 (k:Int)∧k≤S.length∧Hid (Below wm.heap.size wm wr)) (fun _ v _=>S.length-(RowKit.intOf v).toNat)
    case atStart=>exact⟨0,rfl,rfl,Nat.zero_le _,Below.refl _ _⟩
    case round=>
     obtain⟨k,rfl,rfl,hk,BK⟩:=hrel
     by_cases hkl:k<S.length
     ·have hkl':(k:Int)<(S.length:Int):=by omega
      have hak:=am_lt g k
      have AMS:Hid (am g (k+1)=if g k<g (am g k) then k else am g k):=hide rfl
      obtain⟨a,ha⟩:∃a,am g k=a:=⟨_,rfl⟩
      rw[ha] at hak AMS ⊢
      clear ha
      have hal:(a:Int)<(S.length:Int):=by omega
      have q1:=CM.out wr BK.out k hkl
      have q2:=CM.out wr BK.out a (by omega)
      have XN:Hid (∀n,Below wr.heap.size wr (wr.drewN n)):=fun n=>below_drewN (Below.refl _ _) n
      generalize g k=y at *
      generalize g a=z at *
      by_cases hyz:y<z
      ·have A2:am g (k+1)=k:=by rw[AMS.out,if_pos hyz]
       clear AMS
       go_wp2
       go_quiet (fail)
       replace XN:=hide (XN.out nq)
       generalize wr.drewN nq=wq at *
       go_wp2
       go_roundw
       case rel=>exact⟨k+1,by rw[A2],by go_num,by omega,bt BK.out XN.out (Nat.le_refl _)⟩
       case measure=>simp[RowKit.intOf];omega
      ·have A2:am g (k+1)=a:=by rw[AMS.out,if_neg hyz]
       clear AMS
       go_wp2
       go_quiet (fail)
       replace XN:=hide (XN.out nq)
       generalize wr.drewN nq=wq at *
       go_wp2
       go_roundw
       case rel=>exact⟨k+1,by rw[A2],by go_num,by omega,bt BK.out XN.out (Nat.le_refl _)⟩
       case measure=>simp[RowKit.intOf];omega
     ·have hkl':¬(k:Int)<(S.length:Int):=by omega
      obtain rfl:k=S.length:=by omega
      go_wp2
      go_meet
      exact⟨rfl,BK⟩
   obtain⟨rfl,BK⟩:=hcut
   generalize wc=wk at *
   have hal:=am_lt g S.length
   generalize am g S.length=a at *
   have hal1:a<S.length:=by omega
   have hal':(a:Int)<(S.length:Int):=by omega
   have hfl':(f:Int)<(S.length:Int):=by omega
   have q1:=CM.out wk BK.out a hal1
   have q2:=CM.out wk BK.out f hfl
   have XN:Hid (∀n,Below wk.heap.size wk (wk.drewN n)):=fun n=>below_drewN (Below.refl _ _) n
   have BMK:Hid (Below wo.heap.size wo wk):=bt BM.out BK.out (Nat.le_refl _)
   clear CM BM BK hal
   generalize g a=y at *
   generalize g f=z at *
   by_cases hyz:y<z
   ·have NX:=NXT.out
    rw[if_pos hyz] at NX
    replace NX:=hide NX
    clear NXT
    go_wp2
    go_quiet (fail)
    replace XN:=hide (bt BMK.out (XN.out nq) (Nat.le_refl _))
    generalize wk.drewN nq=wq at *
    have MV1:=hide (MVC.out wq a XN.out hal1)
    go_wp2_with (go_at_call 72;refine MV1.out.mono ?_;clear MV1;rintro e w5 ⟨so,c5,rfl,zo5,x5,f5⟩;have ZO5:=hide zo5;have F5:Hid (∀k,so.map Addr.block=some k→w.heap.size≤k):=(fun k hk=>Nat.le_trans (bt BW.out XN.out (Nat.le_refl _)).size (f5 k hk));have X5:=hide (bt BW.out (bt XN.out x5 (Nat.le_refl _)) (Nat.le_refl _));clear zo5 x5 f5)
    go_roundw
    case rel=>exact⟨v+1,mv E v a,so,c5,rfl,by go_num,by omega,NX.out.symm,MVO.out a,ZO5,X5,F5⟩
    case measure=>simp[RowKit.intOf];omega
   ·have NX:=NXT.out
    rw[if_neg hyz] at NX
    replace NX:=hide NX
    clear NXT
    go_wp2
    go_quiet (fail)
    replace XN:=hide (bt BMK.out (XN.out nq) (Nat.le_refl _))
    generalize wk.drewN nq=wq at *
    go_wp2
    go_roundw
    case rel=>exact⟨v+1,o,some ⟨zb,zo,none⟩,cc,rfl,by go_num,by omega,NX.out.symm,ORD,ZO.out.below XN.out,bt BW.out XN.out (Nat.le_refl _),FW⟩
    case measure=>simp[RowKit.intOf];omega
  ·have hlt':¬(v:Int)<(S.length:Int):=by omega
   obtain rfl:v=S.length:=by omega
   obtain⟨zb,zo,hca,hzb,-⟩:=ZO.out.get (show 0<o.length by have:=ORD.out.len;omega)
   subst hca
   have ZF:Hid (ZAt wr (some ⟨zb,zo,none⟩) (bsO C (lows S.length) S.length)):=by
    unfold Hid
    rw[←HO.out]
    exact ZO.out
   go_wp2
   go_ret2
   exact FIN.out _ _ _ BW.out ZF.out (FW.out zb rfl)
end
section
variable {w:World} {a:Nat} {S:List Int} {M:Int} {N:List Nd} {m:Nat} {PA:Nat→Prop} {rs o:List Int} {most:Int}
set_option maxRecDepth 100000 in
set_option maxHeartbeats 4000000 in
theorem bestC_any (ao:Option Addr) (cap:Nat) (hA:CA w a S M N m PA) (hz:ZAt w ao rs) (hl:rs.length≤268435456) (hm:(∀f∈rs,hasR N f)→Sml S (rs.map fun f p=>sayR N p f)):
 Calls Try.prog 15 #[.pointer (some ⟨a,0,none⟩),.slice ao rs.length cap,.int .i64 most] w fun e w'=>BsD S rs most N w e w':=by
 by_cases hmay:0≤most∧most≤8192∧∀f∈rs,hasR N f
 ·exact(bestAll_any ao cap hA hz hmay.2.2 hl hmay.1 hmay.2.1 (hm hmay.2.2)).mono (fun e w' ⟨g,h1,h2,h4,h3⟩=>⟨h3,.inl ⟨hmay,_,_,h1,h2.zbk.at,h4⟩⟩)
 ·have MB:Hid (Calls Try.prog 29 #[.pointer (some ⟨a,0,none⟩),.slice ao rs.length cap,.int .i64 most] w fun e w'=>e=.returned (.bool false)∧Below w.heap.size w w'):=(mayBe_any ao cap rs most (by omega) hz hA).mono (fun e w' ⟨⟨b,e1,hb⟩,hx⟩=>⟨by rw[e1,Bool.eq_false_iff.2 (fun hbt=>hmay (hb.1 hbt))],hx⟩)
  have FIN:Hid (∀wq,Below w.heap.size w wq→BsD S rs most N w (.returned (.tuple #[.slice none 0 0,.int .i64 1])) wq):=fun wq hq=>⟨hq,.inr ⟨hmay,rfl⟩⟩
  clear hA hz hm hmay
  go_enter Try.func15,Try.ntmps15
  go_wp2_with (go_at_call 29;refine MB.out.mono ?_;rintro e w1 ⟨rfl,x1⟩;have X1:=hide x1;clear x1)
  go_ret2
  exact FIN.out _ X1.out
theorem mayBeN_any (v:Value) (k:Int):Calls Try.prog 29 #[.pointer none,v,.int .i64 k] w fun e w'=>e=.returned (.bool false)∧w'=w:=by
 go_enter Try.func29,Try.ntmps29
 go_wp2
 go_ret
 exact⟨rfl,rfl⟩
set_option maxRecDepth 100000 in
theorem bestN_any (v:Value) (k:Int):Calls Try.prog 15 #[.pointer none,v,.int .i64 k] w fun e w'=>e=.returned (.tuple #[.slice none 0 0,.int .i64 1])∧w'=w:=by
 have MB:=hide (mayBeN_any (w:=w) v k)
 go_enter Try.func15,Try.ntmps15
 go_wp2_with (go_at_call 29;refine MB.out.mono ?_;rintro e w1 ⟨rfl,h⟩;rw[h];clear h)
 go_ret2
 exact⟨rfl,rfl⟩
theorem addX_any (n m:Int) (h0:0≤n) (h1:n≤1125899906842624) (h2:0≤m) (h3:m≤1125899906842624):
 Calls Try.prog 6 #[.int .i64 n,.int .i64 m] w fun e w'=>(∃s,e=.returned (.int .i64 s)∧0≤s∧s≤2147483648∧(s≤2147483647→s=n+m))∧w'=w:=by
 have e1:IntKind.i64.wrap (2147483647-n)=2147483647-n:=by simp[IntKind.wrap,IntKind.bits,IntKind.signed];omega
 have e2:IntKind.i64.wrap (n+m)=n+m:=by simp[IntKind.wrap,IntKind.bits,IntKind.signed];omega
 by_cases hg:2147483647-n<m
 ·go_enter Try.func6,Try.ntmps6
  go_wp2
  go_ret
  exact⟨⟨_,rfl,by decide,by decide,fun h=>absurd h (by decide)⟩,rfl⟩
 ·go_enter Try.func6,Try.ntmps6
  go_wp2
  go_ret
  exact⟨⟨_,rfl,by omega,by omega,fun _=>rfl⟩,rfl⟩
end
section
variable {w:World} {L:List Int}
set_option maxRecDepth 100000 in
set_option maxHeartbeats 4000000 in
theorem lent_any (ao:Option Addr) (cap:Nat) (hl:L.length≤268435456) (hz:ZAt w ao L):
 Calls Try.prog 35 #[.slice ao L.length cap] w fun e w'=>∃g,e=.returned (.slice (some ⟨g,0,none⟩) (L.length+2) (L.length+2))∧RwZ w' g (L++[-77,-77])∧w.heap.size≤g∧Below w.heap.size w w':=by
 have ew:IntKind.i64.wrap ((L.length:Int)+2)=((L.length+2:Nat):Int):=by simp[IntKind.wrap,IntKind.bits,IntKind.signed];omega
 have ew1:IntKind.i64.wrap ((L.length:Int)+1)=((L.length+1:Nat):Int):=by simp[IntKind.wrap,IntKind.bits,IntKind.signed];omega
 obtain⟨nn,hnn⟩:∃nn,L.length+2=nn:=⟨_,rfl⟩
 obtain⟨n1,hn1⟩:∃n1,L.length+1=n1:=⟨_,rfl⟩
 rw[hnn] at ew
 rw[hn1] at ew1
 have hmk:=make_nums nn (by omega)
 have X1:Hid (Below w.heap.size w (w.alloc (.cells (zC (List.replicate nn 0)).toArray 3))):=al (Below.refl _ _) _
 have Z1:=hide (RwZ.made w (List.replicate nn 0))
 have HZ:=hide hz
 have HNN:=hide hnn
 have HN1:=hide hn1
 have i1:(L.length:Int)<(nn:Int):=by omega
 have i2:(n1:Int)<(nn:Int):=by omega
 have OC:Hid (∀u∈zC L,u.oneCell'=true):=fun u hu=>by
  obtain⟨z,_,rfl⟩:=List.mem_map.1 hu
  rfl
 clear hz hnn hn1
 go_enter Try.func35,Try.ntmps35
 go_upto_region 2 with fail
 clear hmk
 generalize w.alloc (.cells (zC (List.replicate nn 0)).toArray 3)=w1 at *
 obtain⟨g,hg⟩:∃g,w.heap.size=g:=⟨_,rfl⟩
 have HG:=hide hg
 rw[hg] at Z1 ⊢
 clear hg
 have LZ:Hid ((zC L).length=Nat.min L.length nn):=by unfold Hid;have:=HNN.out;simp only[zC,List.length_map];exact(Nat.min_eq_left (by omega)).symm
 have LF:Hid (0+(zC L).length≤(zC (List.replicate nn 0)).length):=by unfold Hid;have:=HNN.out;simp only[zC,List.length_map,List.length_replicate];omega
 have SP:Hid (splice (zC (List.replicate nn 0)) 0 (zC L)=zC (L++[0,0])):=by
  have h1:List.drop (zC L).length (zC (List.replicate nn 0))=zC [0,0]:=by
   have:=HNN.out
   simp only[zC,List.length_map,List.map_replicate,List.drop_replicate]
   rw[show nn-L.length=2 by omega]
   rfl
  unfold Hid splice
  rw[List.take_zero,List.nil_append,Nat.zero_add,h1]
  simp[zC]
 have POS:Hid (0<(zC L).length→(some (⟨g,0,none⟩:Addr)=some ⟨g,0,none⟩)∧∃ad,ao=some ad∧∀j v,(zC L)[j]? =some v→w1.cell? (ad.add j)=some v):=fun h0=>by
  refine⟨rfl,?_⟩
  rcases HZ.out.below X1.out with h1|⟨b1,off,h1,_⟩
  ·rw[h1] at h0;simp[zC] at h0
  ·refine⟨_,h1,?_⟩
   have:=HZ.out.below X1.out
   rw[h1] at this
   exact this.cells
 obtain⟨i3,hi3,_,hz31,_⟩:=info_parts Try.info3
 have I3:(Try.prog.info? 3).map (·.size)=some 1:=by rw[hi3];exact congrArg some hz31
 have HGB:w.heap.size≤g:=Nat.le_of_eq HG.out
 go_upto_region 3 with(refine wpList_copy_splice rfl (.tmp 8) (.tmp 9) 22 22 rfl 3 Try.underlying22 I3 (some ⟨g,0,none⟩) ao nn nn L.length cap rfl rfl g 0 (zC (List.replicate nn 0)) 3 Z1.out (zC L) LZ.out POS.out LF.out OC.out w.heap.size w X1.out HGB ?_;intro w2 h1 h2;have Z2:=h1;have X2:=hide h2;clear h1 h2)
 have Z3:Hid (RwZ w2 g (L++[0,0])):=by
  have:=Z2.out
  rw[SP.out] at this
  exact this
 have l3:(L++[(0:Int),0]).length=nn:=by rw[←HNN.out];simp
 have c1:=Z3.out.cell (k:=L.length) (by rw[l3];omega)
 have f1:=Z3.out.fro L.length
 have Z4:=hide (Z3.out.set L.length (-77))
 have X4:Hid (Below w.heap.size w (w2.setCell ⟨g,L.length,none⟩ (.int .i64 (-77)))):=X2.out.setCell (show w.heap.size≤g from HGB) _
 clear Z1 Z2 X1 LZ LF SP POS I3 OC HZ hi3 hz31 ew
 go_upto_region 4 with fail
 clear Z3 X2 c1 f1
 generalize w2.setCell ⟨g,L.length,none⟩ (.int .i64 (-77))=w3 at *
 have l4:((L++[(0:Int),0]).set L.length (-77)).length=nn:=by rw[List.length_set,l3]
 have c2:=Z4.out.cell (k:=n1) (by rw[l4];omega)
 have f2:=Z4.out.fro n1
 have Z5:=hide (Z4.out.set n1 (-77))
 have X5:Hid (Below w.heap.size w (w3.setCell ⟨g,n1,none⟩ (.int .i64 (-77)))):=X4.out.setCell (show w.heap.size≤g from HGB) _
 have FIN:Hid (((L++[(0:Int),0]).set L.length (-77)).set n1 (-77)=L++[-77,-77]):=by
  unfold Hid
  rw[←HN1.out,List.set_append_right _ _ (Nat.le_refl _),Nat.sub_self,List.set_append_right _ _ (by omega),show L.length+1-L.length=1 by omega]
  rfl
 go_upto_region 5 with fail
 clear Z4 X4 c2 f2
 generalize w3.setCell ⟨g,n1,none⟩ (.int .i64 (-77))=w4 at *
 go_wp2
 go_ret
 exact⟨g,by rw[HNN.out];rfl,by have:=Z5.out;rw[FIN.out] at this;exact this,HGB,X5.out⟩
end
section
variable {w:World} {L:List Int} {g:Nat}
theorem lent_zat (h:RwZ w g (L++[-77,-77])):ZAt w (some ⟨g,0,none⟩) L∧w.cell? ⟨g,L.length,none⟩=some (.int .i64 (-77))∧w.cell? ⟨g,L.length+1,none⟩=some (.int .i64 (-77)):=by
 refine⟨.inr ⟨g,0,rfl,h.lt,fun i hi=>?_⟩,?_,?_⟩
 ·rw[Nat.zero_add,h.cell (k:=i) (by simp;omega),List.getD_eq_getElem?_getD,List.getElem?_append_left hi,List.getD_eq_getElem?_getD]
 ·rw[h.cell (k:=L.length) (by simp),List.getD_eq_getElem?_getD,List.getElem?_append_right (Nat.le_refl _),Nat.sub_self]
  rfl
 ·rw[h.cell (k:=L.length+1) (by simp),List.getD_eq_getElem?_getD,List.getElem?_append_right (by omega),show L.length+1-L.length=1 by omega]
  rfl
set_option maxRecDepth 100000 in
set_option maxHeartbeats 4000000 in
theorem kept_any (ao:Option Addr) (cap:Nat) (hl:L.length≤268435456) (hz:ZAt w ao L) (h:RwZ w g (L++[-77,-77])):
 Calls Try.prog 37 #[.slice (some ⟨g,0,none⟩) (L.length+2) (L.length+2),.slice ao L.length cap] w fun e w'=>e=.returned (.bool true)∧Kept (fun k=>k=g) w w':=by
 obtain⟨nn,hnn⟩:∃nn,L.length+2=nn:=⟨_,rfl⟩
 obtain⟨n1,hn1⟩:∃n1,L.length+1=n1:=⟨_,rfl⟩
 have ew1:IntKind.i64.wrap ((L.length:Int)+1)=((L.length+1:Nat):Int):=by simp[IntKind.wrap,IntKind.bits,IntKind.signed];omega
 rw[hn1] at ew1
 obtain⟨z1,z2,z3⟩:=lent_zat h
 rw[hn1] at z3
 have INT:Hid (Calls Try.prog 23 #[.slice (some ⟨g,0,none⟩) L.length nn,.slice ao L.length cap] w fun e w'=>e=.returned (.bool true)∧Below w.heap.size w w'):=by
  have:=ints_any (some ⟨g,0,none⟩) ao nn cap L L w (by omega) z1 hz
  rw[show decide (L=L)=true by simp] at this
  exact this
 have HR:=hide h
 have HNN:=hide hnn
 have hb:nn≤268435458:=by omega
 have i0:(L.length:Int)≤(nn:Int):=by omega
 have i1:(L.length:Int)<(nn:Int):=by omega
 have i2:(n1:Int)<(nn:Int):=by omega
 have Z2:=hide z2
 have Z3:=hide z3
 rw[hnn]
 clear hz h z1 z2 z3 hn1 hnn
 go_enter Try.func37,Try.ntmps37
 go_upto_region 2 with(go_at_call 23;refine INT.out.mono ?_;clear INT;rintro e w1 ⟨rfl,x1⟩;have X1:=hide x1;clear x1)
 have c1:=(X1.out.cell (p:=⟨g,L.length,none⟩) HR.out.lt).trans Z2.out
 have c2:=(X1.out.cell (p:=⟨g,n1,none⟩) HR.out.lt).trans Z3.out
 have R1:Hid (∃R:List Int,R.length=nn∧RwZ w1 g R):=⟨_,by rw[←HNN.out];simp,HR.out.below X1.out⟩
 have K1:Hid (Kept (fun k=>k=g) w w1):=Kept.of_below X1.out
 clear X1 HR Z2 Z3
 go_upto_block 0 with fail
 clear c1 c2
 go_wp2
 go_loopw [7] (fun v wr=>∃k:Nat,k≤nn∧v=.int .i64 (k:Int)∧Hid (∃R:List Int,R.length=nn∧RwZ wr g R)∧Hid (Kept (fun k=>k=g) w wr)) (fun v _=>nn-(RowKit.intOf v).toNat)
 case atStart=>exact⟨0,Nat.zero_le _,rfl,R1,K1⟩
 case round=>
  obtain⟨k,hk,rfl,RK,KK⟩:=hrel
  clear R1 K1
  by_cases hlt:k<nn
  ·have hlt':(k:Int)<(nn:Int):=by omega
   obtain⟨R,hRl,hR⟩:=RK.out
   have c1:=hR.cell (k:=k) (by omega)
   have f1:=hR.fro k
   have R2:Hid (∃R:List Int,R.length=nn∧RwZ (wr.setCell ⟨g,k,none⟩ (.int .i64 (-78))) g R):=⟨R.set k (-78),by rw[List.length_set];exact hRl,hR.set k (-78)⟩
   have K2:Hid (Kept (fun k=>k=g) w (wr.setCell ⟨g,k,none⟩ (.int .i64 (-78)))):=KK.out.setCell (F:=fun k=>k=g) (p:=⟨g,k,none⟩) rfl _
   clear hR hRl RK KK
   go_wp2
   go_roundw
   case rel=>exact⟨k+1,by omega,by go_num,R2,K2⟩
   case measure=>simp[RowKit.intOf];omega
  ·have hlt':¬(k:Int)<(nn:Int):=by omega
   go_wp2
   go_ret
   exact⟨rfl,KK.out⟩
end
end Go.Proofs.Ytnddhkhmbjeefaa

