/-
  The document's Make by its contract. Condition: lists no longer than a process can hold.
-/
import Derived.Deep.CutBlock
import Derived.Test.YtnddhkhmbjeefaaC34
namespace Go.Proofs.Ytnddhkhmbjeefaa
open Go.RowKit Go.Lib Go.Maps
section
variable {w w':World} {x:Nat} {S:List Int} {M:Int} {R:List ND} {P:Nat→Prop} {sb sc:Nat} {nv lvv:Value} {LV:List Value}
set_option maxRecDepth 100000 in
set_option maxHeartbeats 8000000 in
theorem makeD_any (lv:Int) (ao:Option Addr) (cap:Nat) (A:List Int) (hl:A.length≤140737488351232) (hz:ZAt w ao A) (h:RAx w x S M R P sb sc nv lvv LV):
 Calls Try.prog 28 #[.pointer (some ⟨x,0,none⟩),.int .i64 lv,.slice ao A.length cap] w fun e w'=>MkL S M (R.map ND.nd) lv A w e w' (fun N' P' V=>RA V x S M N' P') P:=by
 obtain⟨c0,c1,c2,c3⟩:=h.cells
 have HH:=hide h
 have HZ:=hide hz
 have hS1:=h.ok.sz.le
 have hfew:=h.few
 by_cases h0:lv<0
 ·have HD:Hid (¬May S (R.map ND.nd) lv A):=fun h=>by have:=h.ge;omega
  clear h hz
  go_enter Try.func28,Try.ntmps28
  go_wp2
  go_ret2
  exact MkL.stay (.inl ⟨HD.out,rfl,rfl,rfl⟩) HH.out.ra (Below.refl _ _)
 by_cases h1:(S.length:Int)≤lv
 ·have HD:Hid (¬May S (R.map ND.nd) lv A):=fun h=>by have:=h.lt;omega
  clear h hz
  go_enter Try.func28,Try.ntmps28
  go_wp2
  go_ret2
  exact MkL.stay (.inl ⟨HD.out,rfl,rfl,rfl⟩) HH.out.ra (Below.refl _ _)
 obtain⟨l,rfl⟩:∃l:Nat,lv=l:=⟨lv.toNat,by omega⟩
 have hl1:l<S.length:=by omega
 have hl0:¬(l:Int)<0:=by omega
 have hl3:¬S.length≤l:=by omega
 have hl2:(l:Int)<(S.length:Int):=by omega
 have d0:=h.sz.cell hl1
 clear h hz h0 h1
 by_cases h2:(A.length:Int)=S.getD l 0
 ·have h2':((A.length:Int)!=S.getD l 0)=false:=by rw[h2];simp
  have HL:=hide h2
  clear h2
  generalize hs:S.getD l 0=s at *
  have HSE:=hide hs
  clear hs
  go_enter Try.func28,Try.ntmps28
  go_upto_block 0 with fail
  clear c0 c1 c2 c3 d0
  go_cut [8,9,10] (fun b _ _ wx=>∃bb:Bool,b=.bool bb∧(bb=true↔One A)∧Hid (May S (R.map ND.nd) (l:Int) A)∧Hid (Below w.heap.size w wx))
  case first=>
   go_wp2
   go_loopw [8,9] (fun b y wr=>∃(k:Nat) (bb:Bool),k≤A.length∧y=.int .i64 k∧b=.bool bb∧(bb=true↔∀i,i<k→A.getD i 0=A.getD 0 0)∧Hid (∀i,i<k→hasR (R.map ND.nd) (A.getD i 0)∧(l:Int)<lvl S (R.map ND.nd) (A.getD i 0))∧Hid (Below w.heap.size w wr)) (fun _ y _=>A.length-(RowKit.intOf y).toNat)
   case atStart=>exact⟨0,true,Nat.zero_le _,rfl,rfl,by simp,fun i h=>by omega,Below.refl _ _⟩
   case round=>
    obtain⟨k,bb,hk,rfl,rfl,hbb,HE,HQ⟩:=hrel
    have HBB:=hide hbb
    clear hbb
    by_cases hlt:k<A.length
    ·have hlt':(k:Int)<A.length:=by omega
     have hla0:(0:Int)<A.length:=by omega
     have hla1:0<A.length:=by omega
     obtain⟨b1,o1,rfl,hb1,g1⟩:=HZ.out.get hlt
     obtain⟨b2,o2,e2,hb2,g2⟩:=HZ.out.get (i:=0) (by omega)
     injection e2 with e2;injection e2 with e2 e3;subst e2 e3
     have q1:=(HQ.out.cell (p:=⟨b1,o1+k,none⟩) hb1).trans g1
     have q2:=(HQ.out.cell (p:=⟨b1,o1+0,none⟩) hb1).trans g2
     rw[Nat.add_zero] at q2
     clear g1 g2
     have HM:Hid (A.getD k 0∈A):=getD_mem hlt
     have HE2:Hid (hasR (R.map ND.nd) (A.getD k 0)→(l:Int)<lvl S (R.map ND.nd) (A.getD k 0)→∀i,i<k+1→hasR (R.map ND.nd) (A.getD i 0)∧(l:Int)<lvl S (R.map ND.nd) (A.getD i 0)):=fun p q i hi=>by
      rcases Nat.lt_or_ge i k with h|h
      ·exact HE.out i h
      ·obtain rfl:i=k:=by omega
       exact⟨p,q⟩
     have HB2:Hid ((bb&&(A.getD k 0==A.getD 0 0))=true↔∀i,i<k+1→A.getD i 0=A.getD 0 0):=by
      unfold Hid
      rw[Bool.and_eq_true,HBB.out,beq_iff_eq]
      refine⟨fun h i hi=>?_,fun h=>⟨fun i hi=>h i (by omega),h k (by omega)⟩⟩
      rcases Nat.lt_or_ge i k with h3|h3
      ·exact h.1 i h3
      ·obtain rfl:i=k:=by omega
       exact h.2
     clear HE HBB
     generalize A.getD k 0=y at *
     generalize A.getD 0 0=z at *
     have hb1w:b1<wr.heap.size:=Nat.lt_of_lt_of_le hb1 HQ.out.size
     have HA:=hide (hasD_any y (HH.out.below HQ.out))
     have HLv:=hide (levelD_any y (HH.out.below HQ.out))
     have HI:=hide (hasN_iff (f:=y) (R.map ND.nd) (n:=R.length) (by simp))
     cases hb:hasN R.length y
     ·rw[hb] at HA
      have HD:Hid (¬May S (R.map ND.nd) (l:Int) A):=fun h=>by
       have:=(h.kid y HM.out).1
       rw[←HI.out,hb] at this
       cases this
      clear hb HLv
      go_wp2_with (go_at_call 51;refine HA.out.mono ?_;rintro e w1 ⟨rfl,hw1⟩;have hw2:=hw1.symm;clear hw1;subst hw2)
      go_ret2
      exact MkL.stay (.inl ⟨HD.out,rfl,rfl,rfl⟩) (HH.out.below HQ.out).ra HQ.out
     ·rw[hb] at HA
      have HR:Hid (hasR (R.map ND.nd) y):=HI.out.1 hb
      clear hb
      by_cases hv:(l:Int)<lvl S (R.map ND.nd) y
      ·have HE3:=hide (HE2.out HR.out hv)
       have hv':¬lvl S (R.map ND.nd) y≤(l:Int):=by omega
       clear HE2
       generalize lvl S (R.map ND.nd) y=lvy at *
       have HDr:Hid (Below wr.heap.size wr wr.drew):=(Below.refl _ _).drew
       cases bb
       ·go_upto_region 10 with(first
         |(go_at_call 51;refine HA.out.mono ?_;rintro e w1 ⟨rfl,hw1⟩;have hw2:=hw1.symm;clear hw1;subst hw2)
         |(go_at_call 27;refine HLv.out.mono ?_;rintro e w1 ⟨rfl,hw1⟩;have hw2:=hw1.symm;clear hw1;subst hw2))
        refine wp_region_quiet (C:=fun w'=>Below wr.heap.size wr w') (by kernel_rfl) (by kernel_rfl) HDr.out ?_
        refine QW.out (l:=_::_) ?_
        iterate 2 (refine QW.take (by rfl) ?_;apply Exists.intro;refine⟨fun w' hw'=>?_,?_⟩;(·(go_simp;first|done|(first|done|rfl)));try simp only[Act.put,List.setIfInBounds_toArray,List.set_cons_zero,List.set_cons_succ])
        iterate 8 (refine QW.skip (by rfl) ?_;try simp only[Act.put,List.setIfInBounds_toArray,List.set_cons_zero,List.set_cons_succ])
        iterate 2 (refine QW.take (by rfl) ?_;apply Exists.intro;refine⟨fun w' hw'=>?_,?_⟩;(·(go_simp;first|done|(first|done|rfl)));try simp only[Act.put,List.setIfInBounds_toArray,List.set_cons_zero,List.set_cons_succ])
        refine QW.nil ?_
        intro wy x7
        have X7:=hide (HQ.out.trans (x7.mono HQ.out.size))
        clear x7
        go_wp2
        go_roundw
        case rel=>exact⟨k+1,false,by omega,by go_num,rfl,by simpa using HB2.out,HE3,X7⟩
        case measure=>simp[RowKit.intOf];omega
       ·go_upto_region 10 with(first
         |(go_at_call 51;refine HA.out.mono ?_;rintro e w1 ⟨rfl,hw1⟩;have hw2:=hw1.symm;clear hw1;subst hw2)
         |(go_at_call 27;refine HLv.out.mono ?_;rintro e w1 ⟨rfl,hw1⟩;have hw2:=hw1.symm;clear hw1;subst hw2))
        refine wp_region_quiet (C:=fun w'=>Below wr.heap.size wr w') (by kernel_rfl) (by kernel_rfl) HDr.out ?_
        refine QW.out (l:=_::_) ?_
        iterate 12 (refine QW.take (by rfl) ?_;apply Exists.intro;refine⟨fun w' hw'=>?_,?_⟩;(·(have g1:=(hw'.cell (p:=⟨b1,o1+k,none⟩) hb1w).trans q1;have g2:=(hw'.cell (p:=⟨b1,o1,none⟩) hb1w).trans q2;go_simp;first|done|(first|done|rfl)));try simp only[Act.put,List.setIfInBounds_toArray,List.set_cons_zero,List.set_cons_succ])
        refine QW.nil ?_
        intro wy x7
        have X7:=hide (HQ.out.trans (x7.mono HQ.out.size))
        clear x7
        have HB3:Hid ((y==z)=true↔∀i,i<k+1→A.getD i 0=z):=by simpa [Hid] using HB2.out
        go_wp2
        go_roundw
        case rel=>exact⟨k+1,(y==z),by omega,by go_num,rfl,HB3.out,HE3,X7⟩
        case measure=>simp[RowKit.intOf];omega
      ·have HD:Hid (¬May S (R.map ND.nd) (l:Int) A):=fun h=>hv (h.kid y HM.out).2
       have hv':lvl S (R.map ND.nd) y≤(l:Int):=by omega
       clear HE2
       generalize lvl S (R.map ND.nd) y=lvy at *
       go_wp2_with (first
        |(go_at_call 51;refine HA.out.mono ?_;rintro e w1 ⟨rfl,hw1⟩;have hw2:=hw1.symm;clear hw1;subst hw2)
        |(go_at_call 27;refine HLv.out.mono ?_;rintro e w1 ⟨rfl,hw1⟩;have hw2:=hw1.symm;clear hw1;subst hw2))
       go_ret2
       exact MkL.stay (.inl ⟨HD.out,rfl,rfl,rfl⟩) (HH.out.below HQ.out).ra HQ.out
    ·have hlt':¬(k:Int)<A.length:=by omega
     obtain rfl:k=A.length:=by omega
     have HD:Hid (May S (R.map ND.nd) (l:Int) A):=⟨by omega,by omega,by rw[Int.toNat_natCast,HSE.out];exact HL.out,all_of_getD (fun i hi=>HE.out i hi)⟩
     have HO:Hid (bb=true↔One A):=HBB.out.trans ⟨fun h=>all_of_getD h,fun h i hi=>h _ (getD_mem hi)⟩
     go_wp2
     go_meet
     exact⟨bb,rfl,HO.out,HD,HQ⟩
  case rest=>
   obtain⟨bb,rfl,hbb,HM,HQ⟩:=hcut
   have H1:=hide (HH.out.below HQ.out)
   obtain⟨-,-,hkl,hk1⟩:=HM.out.rng HH.out.ok (by rw[List.length_map];exact hfew)
   have hk1':(0:Int)<A.length:=by omega
   obtain⟨bz,oz,rfl,hbz,hcz⟩:=HZ.out.get (i:=0) (by omega)
   have q0:=(HQ.out.cell (p:=⟨bz,oz+0,none⟩) hbz).trans hcz
   rw[Nat.add_zero] at q0
   clear hcz
   have HZ1:=hide (HZ.out.below HQ.out)
   cases bb
   ·have HO:Hid (¬One A):=fun h=>by have:=hbb.2 h;cases this
    clear hbb q0
    obtain⟨c0,c1,c2,c3⟩:=H1.out.cells
    obtain⟨gl,cl,hlv,hgl,hlc,hlf⟩:=H1.out.lcell hl1
    subst hlv
    obtain⟨ua,uc,hu,hup,_⟩:=(H1.out.lists l hl1).shape
    obtain⟨na,nc,hnv,hnp,_⟩:=H1.out.row.shape
    subst hnv
    have HRL:=hide (refs_len (R.map ND.nd) (l:Int))
    rw[List.length_map] at HRL
    have hrl:(refs (R.map ND.nd) (l:Int)).length≤8192:=by have:=HRL.out;omega
    have HU:=hide hu
    rw[HU.out] at hlc
    have HUP:=hide hup
    have HNP:=hide hnp
    clear hu hup hnp HRL
    go_upto_block 2 with fail
    clear c0 c1 c2 c3 hlc hlf
    go_cut [11,12] (fun _ _ wx=>Hid (((l:Int),A)∉R.map ND.nd)∧Hid (Below w.heap.size w wx))
    case first=>
     go_wp2
     go_loopw [11] (fun y wr=>∃k:Nat,k≤(refs (R.map ND.nd) (l:Int)).length∧y=.int .i64 k∧Hid (∀j,j<k→∀i:Nat,(refs (R.map ND.nd) (l:Int)).getD j 0=(i:Int)+2→(R.map ND.nd)[i]? ≠some ((l:Int),A))∧Hid (Below w.heap.size w wr)) (fun y _=>(refs (R.map ND.nd) (l:Int)).length-(RowKit.intOf y).toNat)
     case atStart=>exact⟨0,Nat.zero_le _,rfl,fun j h=>by omega,HQ⟩
     case round=>
      obtain⟨k,hk,rfl,HE,HQ2⟩:=hrel
      have H2:=hide (HH.out.below HQ2.out)
      obtain⟨c0,c1,c2,c3⟩:=H2.out.cells
      obtain⟨gl2,cl2,elv,hgl2,hlc,hlf⟩:=H2.out.lcell hl1
      injection elv with elv _ elc
      injection elv with elv;injection elv with elv
      subst elv elc
      rw[HU.out] at hlc
      by_cases hlt:k<(refs (R.map ND.nd) (l:Int)).length
      ·have hlt':(k:Int)<(refs (R.map ND.nd) (l:Int)).length:=by omega
       obtain⟨ug,hug⟩:=HUP.out (by omega)
       subst hug
       have HF:=(H2.out.lists l hl1)
       have hkc:=HF.cell HU.out (j:=k) (by omega)
       rw[zC_get _ hlt] at hkc
       have hugl:ug<wr.heap.size:=HF.lt (by rw[HU.out];rfl)
       obtain⟨i,hi,hil,hie⟩:=refs_mem.1 (getD_mem hlt)
       rw[List.length_map] at hi
       obtain⟨ng,hng⟩:=HNP.out (by omega)
       subst hng
       obtain⟨d0,d1⟩:=H2.out.node rfl hi
       have hngl:ng<wr.heap.size:=H2.out.row.lt rfl
       have hgi:(R.map ND.nd)[i]? =some ((R[i]).lv,(R[i]).ks):=by rw[List.getElem?_eq_getElem (by rw[List.length_map];exact hi),List.getElem_map];rfl
       have hlvi:(R[i]).lv=(l:Int):=by
        rw[List.getD_eq_getElem?_getD,hgi] at hil
        exact hil
       have hmi:=HH.out.ok.may (i:=i) (by rw[List.length_map];exact hi)
       rw[List.getElem_map] at hmi
       have hlen:(R[i]).ks.length=A.length:=by
        have e1:=hmi.len
        have e2:=HM.out.len
        simp only[ND.nd] at e1
        rw[hlvi] at e1
        omega
       have hkz:=H2.out.kid (R[i]) (List.getElem_mem hi)
       have HZ2:=HZ.out.below HQ2.out
       have HSM:Hid (∀V,Below wr.heap.size wr V→Calls Try.prog 52 #[.slice (some ⟨(R[i]).kb,0,none⟩) (R[i]).ks.length (R[i]).kc,.slice (some ⟨bz,oz,none⟩) A.length cap] V fun e w'=>e=.returned (.bool (decide ((R[i]).ks=A)))∧Below V.heap.size V w'):=fun V xV=>sameD_any _ _ _ _ _ _ V hlen (by omega) (hkz.below xV).at (HZ2.below xV)
       have HGI:=hide hgi
       rw[hlvi] at HGI
       have hxl:x<wr.heap.size:=H2.out.plt x H2.out.px
       have HIE:=hide hie
       clear hgi hmi hkz HZ2 HF hil hlvi hie
       rw[HIE.out] at hkc
       have e2:IntKind.i64.wrap (i:Int)=(i:Int):=by simp[IntKind.wrap,IntKind.bits,IntKind.signed];omega
       have e3:(0:Int)≤(i:Int):=by omega
       have e4:(i:Int)<(R.length:Int):=by omega
       have HDr:Hid (Below wr.heap.size wr wr.drew):=(Below.refl _ _).drew
       have HLEN:=hide hlen
       clear hlen d0
       generalize (R[i]).kb=kb at *
       generalize (R[i]).kc=kc at *
       generalize (R[i]).ks=ks at *
       go_upto_region 16 with fail
       refine wp_region_quiet (C:=fun w'=>Below wr.heap.size wr w') (by kernel_rfl) (by kernel_rfl) HDr.out ?_
       refine QW.out (l:=_::_) ?_
       iterate 19 (refine QW.take (by rfl) ?_;apply Exists.intro;refine⟨fun w' hw'=>?_,?_⟩;(·(have g1:=(hw'.cell (p:=⟨x,2,none⟩) hxl).trans c2;have g2:=(hw'.cell (p:=⟨x,3,none⟩) hxl).trans c3;have g3:=(hw'.cell (p:=⟨gl,l,none⟩) hgl2).trans hlc;have g4:=(hw'.cell (p:=⟨ug,k,none⟩) hugl).trans hkc;have g5:=(hw'.cell (p:=⟨ng,i*2+1,none⟩) hngl).trans d1;go_simp;first|done|(first|done|rfl)));try simp only[Act.put,List.setIfInBounds_toArray,List.set_cons_zero,List.set_cons_succ])
       iterate 1 (refine QW.take (by rfl) ?_;apply Exists.intro;refine⟨fun w' hw'=>?_,?_⟩;(·(have g1:=(hw'.cell (p:=⟨x,2,none⟩) hxl).trans c2;have g2:=(hw'.cell (p:=⟨x,3,none⟩) hxl).trans c3;have g3:=(hw'.cell (p:=⟨gl,l,none⟩) hgl2).trans hlc;have g4:=(hw'.cell (p:=⟨ug,k,none⟩) hugl).trans hkc;have g5:=(hw'.cell (p:=⟨ng,i*2+1,none⟩) hngl).trans d1;go_simp;(refine(HSM.out w' hw').mono ?_;rintro e w2 ⟨rfl,x2⟩;exact⟨rfl,hw'.trans (x2.mono hw'.size)⟩)));try simp only[Act.put,List.setIfInBounds_toArray,List.set_cons_zero,List.set_cons_succ])
       iterate 1 (refine QW.take (by rfl) ?_;apply Exists.intro;refine⟨fun w' hw'=>?_,?_⟩;(·(have g1:=(hw'.cell (p:=⟨x,2,none⟩) hxl).trans c2;have g2:=(hw'.cell (p:=⟨x,3,none⟩) hxl).trans c3;have g3:=(hw'.cell (p:=⟨gl,l,none⟩) hgl2).trans hlc;have g4:=(hw'.cell (p:=⟨ug,k,none⟩) hugl).trans hkc;have g5:=(hw'.cell (p:=⟨ng,i*2+1,none⟩) hngl).trans d1;go_simp;first|done|(first|done|rfl)));try simp only[Act.put,List.setIfInBounds_toArray,List.set_cons_zero,List.set_cons_succ])
       refine QW.nil ?_
       intro wy x7
       have X7:=hide (HQ2.out.trans (x7.mono HQ2.out.size))
       have g2:=(x7.cell (p:=⟨x,3,none⟩) hxl).trans c3
       have g3:=(x7.cell (p:=⟨gl,l,none⟩) hgl2).trans hlc
       have g4:=(x7.cell (p:=⟨ug,k,none⟩) hugl).trans hkc
       clear x7 c0 c1 c2 c3 hlc hkc d1 HSM
       by_cases he:ks=A
       ·have HF:Hid (MkP S M (R.map ND.nd) (l:Int) A ((i:Int)+2) 0 (R.map ND.nd)):=.inr (.inr (.inl ⟨HM.out,HO.out,⟨i,by rw[←he];exact HGI.out,rfl⟩,rfl,rfl⟩))
        rw[decide_eq_true he]
        clear he
        go_wp2
        go_ret2
        exact MkL.stay HF.out (HH.out.below X7.out).ra X7.out
       ·have HE2:Hid (∀j,j<k+1→∀i:Nat,(refs (R.map ND.nd) (l:Int)).getD j 0=(i:Int)+2→(R.map ND.nd)[i]? ≠some ((l:Int),A)):=fun j hj i' e' hc=>by
         rcases Nat.lt_or_ge j k with h|h
         ·exact HE.out j h i' e' hc
         ·obtain rfl:j=k:=by omega
          rw[HIE.out] at e'
          obtain rfl:i=i':=by omega
          rw[HGI.out] at hc
          injection hc with hc
          injection hc with _ hc
          exact he hc
        rw[decide_eq_false he]
        clear he
        go_wp2
        go_roundw
        case rel=>exact⟨k+1,by omega,by go_num,HE2,X7⟩
        case measure=>simp[RowKit.intOf];omega
      ·have hlt':¬(k:Int)<(refs (R.map ND.nd) (l:Int)).length:=by omega
       have HNI:Hid (((l:Int),A)∉R.map ND.nd):=fun hin=>by
        obtain⟨i,hi,e⟩:=List.getElem_of_mem hin
        have hm:(i:Int)+2∈refs (R.map ND.nd) (l:Int):=refs_mem.2 ⟨i,hi,by rw[List.getD_eq_getElem?_getD,List.getElem?_eq_getElem hi,e];rfl,rfl⟩
        obtain⟨j,hj,e2⟩:=List.getElem_of_mem hm
        exact HE.out j (by omega) i (by rw[List.getD_eq_getElem?_getD,List.getElem?_eq_getElem hj];exact e2) (by rw[List.getElem?_eq_getElem hi,e])
       go_wp2
       go_meet
       exact⟨HNI,HQ2⟩
    case rest=>
     obtain⟨HNI,HQ2⟩:=hcut
     have H2:=hide (HH.out.below HQ2.out)
     obtain⟨c0,c1,c2,c3⟩:=H2.out.cells
     clear H1 HQ
     by_cases hfull:(R.length:Int)=M
     ·have hfull':((R.length:Int)==M)=true:=by simpa using hfull
      have HF:Hid (MkP S M (R.map ND.nd) (l:Int) A 0 2 (R.map ND.nd)):=.inr (.inr (.inr (.inl ⟨HM.out,HO.out,HNI.out,by rw[List.length_map];omega,rfl,rfl,rfl⟩)))
      clear hfull
      go_upto_region 19 with fail
      go_quiet (fail)
      go_wp2
      go_ret2
      exact MkL.stay HF.out (H2.out.below (below_drewN (Below.refl _ _) _)).ra (below_drewN HQ2.out _)
     ·have hfull':((R.length:Int)==M)=false:=by simpa using hfull
      have hlt2:((R.map ND.nd).length:Int)<M:=by
       have:=HH.out.ok.few
       rw[List.length_map] at this ⊢
       omega
      have HLT:=hide hlt2
      clear hfull hlt2
      go_upto_region 19 with fail
      go_quiet (fail)
      go_upto_region 22 with fail
      obtain⟨i3,hi3,hz30,hz31,hz32⟩:=info_parts Try.info3
      obtain⟨i47,hi47,hz470,hz471,hz472⟩:=info_parts Try.info47
      have X5:=hide (below_drewN HQ2.out nq).drew
      clear c0 c1 c2 c3 H2 HQ2 HZ1
      have H5:=hide (HH.out.below X5.out)
      have Z5:=hide (HZ.out.below X5.out)
      have HS0:=hide H5.out.cells.2.2.1
      refine wp_unt (S:=fun V=>V.cell? ⟨x,2,none⟩=some (.slice na R.length nc)) 14 (by kernel_rfl) ?_
      generalize (wc.drewN nq).drew=wd at *
      refine UntH.tk 0 rfl 129 HS0.out (fun w' q0=>by go_simp;first|done|rfl) ?_
      refine UntH.tk 1 rfl 130 HS0.out (fun w' q0=>by go_simp;first|done|rfl) ?_
      refine UntH.tk 2 rfl 131 HS0.out (fun w' q0=>by go_simp;first|done|rfl) ?_
      refine UntH.tk 3 rfl 132 HS0.out (fun w' q0=>by go_simp;first|done|rfl) ?_
      refine UntH.tk 4 rfl 133 HS0.out (fun w' q0=>by go_simp;first|done|rfl) ?_
      refine UntH.tk 5 rfl 134 HS0.out (fun w' q0=>by go_simp;first|done|rfl) ?_
      refine UntH.tk 6 rfl 135 HS0.out (fun w' q0=>by go_simp;first|done|rfl) ?_
      refine UntH.tk 7 rfl 136 HS0.out (fun w' q0=>by go_simp;first|done|rfl) ?_
      try simp only[Act.put,List.setIfInBounds_toArray,List.set_cons_zero,List.set_cons_succ]
      have HLA:Hid ((zC A).length=A.length*1):=by unfold Hid;rw[zC_length,Nat.mul_one]
      refine UntH.step (i:=8) (by kernel_rfl) rfl (fun K hK=>?_)
      refine step_append_frow (by rfl) (.tmp 135) (.tmp 136) 22 (by rfl) 3 i3 (.int .i64 0) 1 8 Try.underlying22 hi3 hz30 hz31 hz32 rfl (by decide) (.slice none 0 0) 0 [] (by rfl) (.inl (World.ownsRow_nil _ _ _ _)) ⟨bz,oz,none⟩ A.length cap (zC A) (by rfl) HLA.out Z5.out.cells (zC_one A) (by omega) (by unfold maxLen;omega) (by omega) ?_
      intro g6 cg6 w6 h1 h2 h3
      have x6:=Kept.none_below h2
      rw[Nat.zero_add,List.nil_append] at h1
      have hg6:wd.heap.size≤g6:=by
       rcases h3 with h3|h3
       ·cases h3
       ·exact h3
      obtain⟨g7,c7,e7,-,z6⟩:=own_blk h1 (by omega)
      injection e7 with e7 _ e8
      injection e7 with e7;injection e7 with e7
      subst e7 e8
      have Z6:=hide z6
      have L6:=hide (Nat.le_trans X5.out.size hg6)
      have X6:=hide (bt X5.out x6 (Nat.le_refl _))
      have H6:=hide (H5.out.below x6)
      have HS6:=hide H6.out.cells.2.2.1
      rw[Nat.zero_add]
      refine hK _ _ HS6.out ?_
      clear hK K h1 h2 h3 x6 hg6 z6 HLA
      refine UntH.tk 9 rfl 138 HS6.out (fun w' q0=>by go_simp;first|done|rfl) ?_
      have y7:Below w6.heap.size w6 (w6.alloc (.cells #[.int .i64 (l:Int),.slice (some ⟨g6,0,none⟩) A.length cg6] 86)):=al (Below.refl _ _) _
      have H7:=hide (H6.out.below y7)
      have Z7:=hide (Z6.out.below y7)
      have X7:=hide (bt X6.out y7 (Nat.le_refl _))
      have HS7:=hide H7.out.cells.2.2.1
      have HNW:=hide (two_new w6 (.int .i64 (l:Int)) (.slice (some ⟨g6,0,none⟩) A.length cg6) 86)
      refine UntH.step (i:=10) (by kernel_rfl) rfl (fun K hK=>?_)
      go_simp
      refine hK _ _ HS7.out ?_
      clear hK K y7
      generalize w6.alloc (.cells #[.int .i64 (l:Int),.slice (some ⟨g6,0,none⟩) A.length cg6] 86)=w7 at *
      refine UntH.step (i:=11) (by kernel_rfl) rfl (fun K hK=>?_)
      refine step_append_frow (by rfl) (.tmp 133) (.tmp 139) 63 (by rfl) 86 i47 (.agg #[.int .i64 0,.slice none 0 0]) 2 32 Try.underlying63 hi47 hz470 hz471 hz472 rfl (by decide) _ R.length (ndC R) (by rfl) H7.out.row ⟨w6.heap.size,0,none⟩ 1 1 [.int .i64 (l:Int),.slice (some ⟨g6,0,none⟩) A.length cg6] (by rfl) (by rfl) HNW.out (by simp[Value.oneCell']) (by decide) (by unfold maxLen;omega) (by omega) ?_
      intro g8 cap8 w8 h1 h2 h3
      have hb8:=(h2.block x (lt_of_block H7.out.blk) (fun hF=>by
       obtain⟨cs,h5⟩:=H7.out.row.ty hF
       exact blocks_ne H7.out.blk h5 (by decide) rfl)).trans H7.out.blk
      have HB8:=hide hb8
      have HSN:=hide (H7.out.setN (R':=R++[⟨(l:Int),A,g6,cg6⟩]) (nv':=.slice (some ⟨g8,0,none⟩) (R.length+1) cap8) h2 (.inl (by rw[ndC_append,List.length_append];exact h1)) (fun k hk=>by
       have e:g8=k:=Option.some.inj hk
       rw[←e]
       exact h3) (fun y hy=>by
       rcases List.mem_append.1 hy with hy|hy
       ·exact .inl hy
       ·obtain rfl:=List.mem_singleton.1 hy
        exact .inr ⟨Z7.out,fun hp=>by have:=HH.out.plt _ hp;have:=L6.out;simp only at *;omega⟩) (by rw[List.map_append];exact HH.out.ok.add HM.out HO.out HNI.out HLT.out))
      have HLO:=hide h3
      have HS8:Hid (w8.cell? ⟨x,2,none⟩=some (.slice na R.length nc)):=by unfold Hid;rw[cell_of_row w8 x _ _ _ _ HB8.out];rfl
      have f8:=frozen_of_row w8 x 2 _ _ HB8.out
      refine hK _ _ HS8.out ?_
      clear hK K h1 h2 h3 hb8
      refine UntH.tk 12 rfl 141 HS8.out (fun w' q0=>by go_simp;first|done|rfl) ?_
      refine UntH.tk 13 rfl 142 HS8.out (fun w' q0=>by go_simp;first|done|rfl) ?_
      have q8:=HS8.out
      refine UntH.last (by kernel_rfl) rfl (by kernel_rfl) (by kernel_rfl) (fun K hK=>?_)
      go_simp
      refine hK _ _ ?_
      clear hK K q8 f8 HS8 HS7 HS6 HS0 HB8
      generalize w8.setCell ⟨x,2,none⟩ (.slice (some ⟨g8,0,none⟩) (R.length+1) cap8)=w9 at *
      obtain⟨HSN1,HSN2⟩:=HSN.out
      have H9:=hide HSN1
      have K9:Hid (Kept P w w9):=(Kept.of_below X7.out).trans HSN2
      clear HSN HSN1 HSN2 H7 H6 H5 Z7 Z6 Z5 X6 X5 HNW
      go_upto_region 23 with fail
      have yd:Below w9.heap.size w9 w9.drew:=(Below.refl _ _).drew
      have K10:=hide (K9.out.trans (Kept.of_below yd))
      have H10:=hide (H9.out.below yd)
      have hb10:=H10.out.cells
      have HSA:=hide hb10
      obtain⟨gl2,cl2,elv,hgl2,hlc2,hlf2⟩:=H10.out.lcell hl1
      injection elv with elv _ elc
      injection elv with elv;injection elv with elv
      subst elv elc
      rw[HU.out] at hlc2
      have HLC:=hide hlc2
      have e5:IntKind.i64.wrap ((R.length:Int)+1+1)=(R.length:Int)+2:=by simp[IntKind.wrap,IntKind.bits,IntKind.signed];omega
      have e6:IntKind.i64.wrap (((R.length+1:Nat):Int)+1)=(R.length:Int)+2:=by simp[IntKind.wrap,IntKind.bits,IntKind.signed];omega
      clear hb10 hlc2 hlf2 yd H9 K9
      refine wp_unt (S:=fun V=>V.cell? ⟨x,2,none⟩=some (.slice (some ⟨g8,0,none⟩) (R.length+1) cap8)∧V.cell? ⟨x,3,none⟩=some (.slice (some ⟨gl,0,none⟩) S.length cl)∧V.cell? ⟨gl,l,none⟩=some (.slice ua (refs (R.map ND.nd) (l:Int)).length uc)) 21 (by kernel_rfl) ?_
      generalize w9.drew=w10 at *
      have HS0:Hid (w10.cell? ⟨x,2,none⟩=some (.slice (some ⟨g8,0,none⟩) (R.length+1) cap8)∧w10.cell? ⟨x,3,none⟩=some (.slice (some ⟨gl,0,none⟩) S.length cl)∧w10.cell? ⟨gl,l,none⟩=some (.slice ua (refs (R.map ND.nd) (l:Int)).length uc)):=⟨HSA.out.2.2.1,HSA.out.2.2.2,HLC.out⟩
      clear HSA HLC
      refine UntH.tk 0 rfl 143 HS0.out (fun w' ⟨q0,q1,q2⟩=>by go_simp;first|done|rfl) ?_
      refine UntH.tk 1 rfl 144 HS0.out (fun w' ⟨q0,q1,q2⟩=>by go_simp;first|done|rfl) ?_
      refine UntH.tk 2 rfl 145 HS0.out (fun w' ⟨q0,q1,q2⟩=>by go_simp;first|done|rfl) ?_
      refine UntH.tk 3 rfl 146 HS0.out (fun w' ⟨q0,q1,q2⟩=>by go_simp;first|done|rfl) ?_
      refine UntH.tk 4 rfl 147 HS0.out (fun w' ⟨q0,q1,q2⟩=>by go_simp;first|done|rfl) ?_
      refine UntH.tk 5 rfl 148 HS0.out (fun w' ⟨q0,q1,q2⟩=>by go_simp;first|done|rfl) ?_
      refine UntH.tk 6 rfl 149 HS0.out (fun w' ⟨q0,q1,q2⟩=>by go_simp;first|done|rfl) ?_
      refine UntH.tk 7 rfl 150 HS0.out (fun w' ⟨q0,q1,q2⟩=>by go_simp;first|done|rfl) ?_
      refine UntH.tk 8 rfl 151 HS0.out (fun w' ⟨q0,q1,q2⟩=>by go_simp;first|done|rfl) ?_
      refine UntH.tk 9 rfl 152 HS0.out (fun w' ⟨q0,q1,q2⟩=>by go_simp;first|done|rfl) ?_
      refine UntH.tk 10 rfl 153 HS0.out (fun w' ⟨q0,q1,q2⟩=>by go_simp;first|done|rfl) ?_
      refine UntH.tk 11 rfl 154 HS0.out (fun w' ⟨q0,q1,q2⟩=>by go_simp;first|done|rfl) ?_
      refine UntH.tk 12 rfl 155 HS0.out (fun w' ⟨q0,q1,q2⟩=>by go_simp;first|done|rfl) ?_
      refine UntH.tk 13 rfl 156 HS0.out (fun w' ⟨q0,q1,q2⟩=>by go_simp;first|done|rfl) ?_
      refine UntH.tk 14 rfl 157 HS0.out (fun w' ⟨q0,q1,q2⟩=>by go_simp;first|done|rfl) ?_
      refine UntH.tk 15 rfl 158 HS0.out (fun w' ⟨q0,q1,q2⟩=>by go_simp;first|done|rfl) ?_
      refine UntH.tk 16 rfl 159 HS0.out (fun w' ⟨q0,q1,q2⟩=>by go_simp;first|done|rfl) ?_
      refine UntH.tk 17 rfl 160 HS0.out (fun w' ⟨q0,q1,q2⟩=>by go_simp;first|done|rfl) ?_
      try simp only[Act.put,List.setIfInBounds_toArray,List.set_cons_zero,List.set_cons_succ]
      have y11:Below w10.heap.size w10 (w10.alloc (.cells #[.int .i64 ((R.length:Int)+2)] 3)):=al (Below.refl _ _) _
      have H11:=hide (H10.out.below y11)
      have K11:=hide (K10.out.trans (Kept.of_below y11))
      have HNW:=hide (one_new w10 (.int .i64 ((R.length:Int)+2)) 3)
      have hx11:=H11.out.cells
      obtain⟨gl2,cl2,elv,hgl2,hlc2,hlf2⟩:=H11.out.lcell hl1
      injection elv with elv _ elc
      injection elv with elv;injection elv with elv
      subst elv elc
      rw[HU.out] at hlc2
      have HS11:Hid ((w10.alloc (.cells #[.int .i64 ((R.length:Int)+2)] 3)).cell? ⟨x,2,none⟩=some (.slice (some ⟨g8,0,none⟩) (R.length+1) cap8)∧(w10.alloc (.cells #[.int .i64 ((R.length:Int)+2)] 3)).cell? ⟨x,3,none⟩=some (.slice (some ⟨gl,0,none⟩) S.length cl)∧(w10.alloc (.cells #[.int .i64 ((R.length:Int)+2)] 3)).cell? ⟨gl,l,none⟩=some (.slice ua (refs (R.map ND.nd) (l:Int)).length uc)):=⟨hx11.2.2.1,hx11.2.2.2,hlc2⟩
      clear hx11 hlc2 hlf2 y11
      refine UntH.step (i:=18) (by kernel_rfl) rfl (fun K hK=>?_)
      go_simp
      refine hK _ _ HS11.out ?_
      clear hK K HS0 H10 K10
      have HFU:Hid (FRow (w10.alloc (.cells #[.int .i64 ((R.length:Int)+2)] 3)) 3 1 (.slice ua (refs (R.map ND.nd) (l:Int)).length uc) (refs (R.map ND.nd) (l:Int)).length (zC (refs (R.map ND.nd) (l:Int)))):=by
       have:=H11.out.lists l hl1
       rw[HU.out] at this
       exact this
      have HX11:Hid (w10.heap.size<(w10.alloc (.cells #[.int .i64 ((R.length:Int)+2)] 3)).heap.size):=by unfold Hid;simp
      generalize w10.alloc (.cells #[.int .i64 ((R.length:Int)+2)] 3)=w11 at *
      refine UntH.step (i:=19) (by kernel_rfl) rfl (fun K hK=>?_)
      refine step_append_frow (by rfl) (.tmp 154) (.tmp 161) 22 (by rfl) 3 i3 (.int .i64 0) 1 8 Try.underlying22 hi3 hz30 hz31 hz32 rfl (by decide) _ (refs (R.map ND.nd) (l:Int)).length (zC (refs (R.map ND.nd) (l:Int))) (by rfl) HFU.out ⟨w10.heap.size,0,none⟩ 1 1 [.int .i64 ((R.length:Int)+2)] (by rfl) (by rfl) HNW.out (by simp[Value.oneCell']) (by decide) (by unfold maxLen;omega) (by omega) ?_
      intro g12 cap12 w12 h1 h2 h3
      have HSL:=hide (H11.out.setL hl1 rfl (u':=.slice (some ⟨g12,0,none⟩) ((refs (R.map ND.nd) (l:Int)).length+1) cap12) (l':=refs (R.map ND.nd) (l:Int)++[(R.length:Int)+2]) (by rw[HU.out];exact h2) (.inl (by rw[zC_snoc,List.length_append];exact h1)) (fun k hk=>by
       have e:g12=k:=Option.some.inj hk
       rw[←e,HU.out]
       exact h3))
      have HLO2:=hide h3
      have hk2:∀ {b:Nat} {cs:Array Value} {t:TypeId} {f:Nat×Nat},w11.heap[b]? =some (.cells cs t f)→t≠3→w12.heap[b]? =w11.heap[b]? :=fun hb ht=>h2.block _ (lt_of_block hb) (fun hF=>by
       obtain⟨cs,h5⟩:=HFU.out.ty hF
       exact blocks_ne hb h5 ht rfl)
      have hbx:=(hk2 H11.out.blk (by decide)).trans H11.out.blk
      obtain⟨csl,hgl3⟩:=own_ty H11.out.lrow gl rfl
      have hcl3:w12.cell? ⟨gl,l,none⟩=w11.cell? ⟨gl,l,none⟩:=World.cell?_of_block (w:=w11) (hk2 hgl3 (by decide))
      have HS12:Hid (w12.cell? ⟨x,2,none⟩=some (.slice (some ⟨g8,0,none⟩) (R.length+1) cap8)∧w12.cell? ⟨x,3,none⟩=some (.slice (some ⟨gl,0,none⟩) S.length cl)∧w12.cell? ⟨gl,l,none⟩=some (.slice ua (refs (R.map ND.nd) (l:Int)).length uc)):=⟨by rw[cell_of_row _ x 2 _ _ _ hbx];rfl,by rw[cell_of_row _ x 3 _ _ _ hbx];rfl,hcl3.trans HS11.out.2.2⟩
      have f12:=frozen_of_row w12 gl l _ _ ((hk2 hgl3 (by decide)).trans hgl3)
      refine hK _ _ HS12.out ?_
      clear hK K h1 h2 h3 hk2 hbx hgl3 hcl3
      refine UntH.tk 20 rfl 163 HS12.out (fun w' ⟨q0,q1,q2⟩=>by go_simp;first|done|rfl) ?_
      have q12:=HS12.out.2.2
      refine UntH.last (by kernel_rfl) rfl (by kernel_rfl) (by kernel_rfl) (fun K hK=>?_)
      go_simp
      refine hK _ _ ?_
      clear hK K q12 f12 HS12 HS11 HFU HNW
      generalize w12.setCell ⟨gl,l,none⟩ (.slice (some ⟨g12,0,none⟩) ((refs (R.map ND.nd) (l:Int)).length+1) cap12)=w13 at *
      obtain⟨H13',K13'⟩:=HSL.out
      have H13:=hide H13'
      have K13:=hide K13'
      have c2:=H13'.cells.2.2.1
      clear HSL H13' K13'
      go_wp2
      go_ret2
      refine⟨_,0,_,rfl,.inr (.inr (.inr (.inr ⟨HM.out,HO.out,HNI.out,HLT.out,by rw[List.length_map],rfl,rfl⟩))),_,⟨R++[⟨(l:Int),A,g6,cg6⟩],_,_,_,_,_,H13.out.congr (fun i hi=>?_),by rw[List.map_append];rfl⟩,?_,fun k hk=>?_,fun e=>?_⟩
      ·rw[List.map_append,List.map_singleton,refs_snoc,show(ND.nd ⟨(l:Int),A,g6,cg6⟩).1=(l:Int) from rfl]
       by_cases hil:i=l
       ·subst hil
        rw[if_pos rfl,List.length_map,if_pos rfl]
       ·rw[if_neg (show ¬(l:Int)=(i:Int) by omega),if_neg hil]
      ·refine K11.out.trans_new K13.out (fun k hk hp=>?_)
       rcases hp with hp|hp|⟨y,hy,rfl⟩
       ·exact hp
       ·have e:g8=k:=Option.some.inj hp
        rw[←e] at hk ⊢
        rcases HLO.out with h5|h5
        ·exact HH.out.pn _ h5
        ·have:=X7.out.size;omega
       ·rcases List.mem_append.1 hy with hy|hy
        ·exact HH.out.pk y hy
        ·obtain rfl:=List.mem_singleton.1 hy
         have:=L6.out
         simp only at hk
         omega
      ·rcases hk with(hp|hp|⟨y,hy,rfl⟩)|hp
       ·exact .inl hp
       ·have e:g8=k:=Option.some.inj hp
        rw[←e]
        rcases HLO.out with h5|h5
        ·exact .inl (HH.out.pn _ h5)
        ·exact .inr (Nat.le_trans X7.out.size h5)
       ·rcases List.mem_append.1 hy with hy|hy
        ·exact .inl (HH.out.pk y hy)
        ·obtain rfl:=List.mem_singleton.1 hy
         exact .inr L6.out
       ·have e:g12=k:=Option.some.inj hp
        rw[←e]
        rcases HLO2.out with h5|h5
        ·exact .inl (HH.out.pi l hl1 _ (by rw[HU.out];exact h5))
        ·exact .inr (Nat.le_trans K11.out.size h5)
      ·have:=congrArg List.length e
       simp at this
   ·have HO:Hid (One A):=hbb.1 rfl
    generalize hA0:A.getD 0 0=x0 at *
    have HA0:=hide hA0
    clear hA0 hbb
    go_wp2
    go_ret2
    exact MkL.stay (.inr (.inl ⟨HM.out,HO.out,HA0.out.symm,rfl,rfl⟩)) H1.out.ra HQ.out
 ·have h2':((A.length:Int)!=S.getD l 0)=true:=by simpa using h2
  have HD:Hid (¬May S (R.map ND.nd) (l:Int) A):=fun h=>h2 (by have:=h.len;rw[Int.toNat_natCast] at this;exact this)
  clear h2
  generalize S.getD l 0=s at *
  go_enter Try.func28,Try.ntmps28
  go_wp2
  go_ret2
  exact MkL.stay (.inl ⟨HD.out,rfl,rfl,rfl⟩) HH.out.ra (Below.refl _ _)
end
end Go.Proofs.Ytnddhkhmbjeefaa

