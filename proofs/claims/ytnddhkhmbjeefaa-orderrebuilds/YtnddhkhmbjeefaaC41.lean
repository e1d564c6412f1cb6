/-
  The document's equal, and make1 where nothing is made, by their contracts. Conditions: as the store's.
-/
import Derived.Deep.DeepCutAuto
import Derived.Deep.CutBlock
import Derived.Test.YtnddhkhmbjeefaaC40
import Derived.Test.YtnddhkhmbjeefaaC25
namespace Go.Proofs.Ytnddhkhmbjeefaa
open Go.RowKit Go.Lib Go.Maps
set_option maxRecDepth 100000 in
set_option maxHeartbeats 1000000 in
theorem equal_any (a1 a2:Option Addr) (c1 c2:Nat) (I J:List Int) (w:World) (hl:I.length≤140737488351232) (h1:ZAt w a1 I) (h2:ZAt w a2 J):
 Calls Try.prog 96 #[.slice a1 I.length c1,.slice a2 J.length c2] w fun e w'=>e=.returned (.bool (decide (I=J)))∧Below w.heap.size w w':=by
 by_cases hlen:I.length=J.length
 ·go_enter Try.func96,Try.ntmps96
  rw[hlen] at hl ⊢
  have HL:=hide hlen
  have H1:=hide h1
  have H2:=hide h2
  clear hlen h1 h2
  go_wp2
  go_loopw [5] (fun i wr=>∃k:Nat,k≤J.length∧i=.int .i64 k∧Hid (∀j,j<k→I.getD j 0=J.getD j 0)∧Hid (Below w.heap.size w wr)) (fun i _=>J.length-(RowKit.intOf i).toNat)
  case atStart=>exact⟨0,Nat.zero_le _,rfl,fun j hj=>absurd hj (by omega),Below.refl _ _⟩
  case round=>
   obtain⟨k,hk,rfl,hok,HQ⟩:=hrel
   by_cases hlt:k<J.length
   ·obtain⟨b,off,rfl,hb,hc⟩:=H1.out.get (i:=k) (by have:=HL.out;omega)
    obtain⟨b',off',rfl,hb',hc'⟩:=H2.out.get hlt
    have q1:=(HQ.out.cell (p:=⟨b,off+k,none⟩) hb).trans hc
    have q3:=(HQ.out.cell (p:=⟨b',off'+k,none⟩) hb').trans hc'
    obtain⟨s,hs⟩:∃s,s=I.getD k 0:=⟨_,rfl⟩
    obtain⟨t,ht⟩:∃t,t=J.getD k 0:=⟨_,rfl⟩
    rw[←hs] at q1
    rw[←ht] at q3
    have HS:=hide hs
    have HT:=hide ht
    clear hs ht hc hc'
    by_cases e1:s=t
    ·subst e1
     go_wp2
     go_quiet (fail)
     go_wp2
     go_roundw
     case rel=>
      refine⟨k+1,by omega,by go_num,fun j hj=>?_,below_drewN HQ.out _⟩
      rcases Nat.lt_or_ge j k with h|h
      ·exact hok.out j h
      ·rw[show j=k by omega,←HS.out,←HT.out]
     case measure=>simp[RowKit.intOf];omega
    ·have HF:Hid (decide (I=J)=false):=decide_eq_false fun e=>e1 (by rw[HS.out,HT.out,e])
     go_wp2
     go_quiet (fail)
     go_wp2
     go_ret
     exact⟨by rw[HF.out];rfl,below_drewN HQ.out _⟩
   ·have h8:k=J.length:=by omega
    subst h8
    go_wp2
    go_ret
    refine⟨?_,HQ.out⟩
    have:I=J:=by
     apply List.ext_getElem HL.out
     intro j h3 h4
     have:=hok.out j h4
     rwa [List.getD_eq_getElem?_getD,List.getElem?_eq_getElem h3,List.getD_eq_getElem?_getD,List.getElem?_eq_getElem h4] at this
    rw[decide_eq_true this]
    rfl
 ·have HF:Hid (decide (I=J)=false):=decide_eq_false fun e=>hlen (by rw[e])
  have hl':¬((I.length:Int)=(J.length:Int)):=by omega
  go_enter Try.func96,Try.ntmps96
  go_wp2
  go_ret
  exact⟨by rw[HF.out];rfl,Below.refl _ _⟩
def OneU (ks:List Int) (i:Nat) (b:Bool):Prop:=b=true↔∀j,j<i→ks.getD j 0=ks.getD 0 0
def OneB (ks:List Int) (b:Bool):Prop:=b=true↔One ks
def M1L (S:List Int) (D:List Nd) (lv:Int) (ks:List Int) (kb s:Nat) (P M:Nat→Prop) (w:World) (e:Ending) (w':World):Prop:=∃f D' P' M',e=.returned (.int .i64 f)∧MkP S MB D lv ks f 0 D'∧St w' s S D' P' M'∧Kept M w w'∧(∀k,P' k→P k∨k=kb∨w.heap.size≤k)∧∀k,M' k→M k∨w.heap.size≤k
theorem or_bits {a b:Nat} (ha:a<4096) (hb:b<4096):bits BinOp.or IntKind.i64 (a:Int) (b:Int)=((a|||b:Nat):Int):=by
 have h:a|||b<2^12:=Nat.or_lt_two_pow (by omega) (by omega)
 have e:(BitVec.ofInt 64 (a:Int)|||BitVec.ofInt 64 (b:Int)).toNat=a|||b:=by
  rw[BitVec.toNat_or,BitVec.ofInt_natCast,BitVec.ofInt_natCast,BitVec.toNat_ofNat,BitVec.toNat_ofNat,Nat.mod_eq_of_lt (by omega),Nat.mod_eq_of_lt (by omega)]
 show IntKind.i64.wrap ((BitVec.ofInt 64 (a:Int)|||BitVec.ofInt 64 (b:Int)).toNat:Int)=_
 rw[e]
 simp[IntKind.wrap,IntKind.bits,IntKind.signed]
 omega
section
variable {w:World} {s kb kc l0:Nat} {S ks:List Int} {D:List Nd} {P M:Nat→Prop}
theorem StX.node {R:List ND} {V:Nat→Value} {L:Nat→List Int} {ng nc:Nat} (h:StX w s R (.slice (some ⟨ng,0,none⟩) (R.length+2) nc) V L P M) {i:Nat} (hi:i<R.length):w.cell? ⟨ng,(i+2)*2,none⟩=some (.int .i64 (R[i]).lv)∧w.cell? ⟨ng,(i+2)*2+1,none⟩=some (.slice (some ⟨(R[i]).kb,0,none⟩) (R[i]).ks.length (R[i]).kc):=by
 obtain⟨a,b⟩:=ndC_get R i hi
 have e:∀j,(z4++ndC R)[4+j]? =(ndC R)[j]? :=fun j=>by rw[List.getElem?_append_right (by simp[z4])];simp[z4]
 have nod:=h.nod
 constructor
 ·rw[World.ownsRow.cellAt nod _ (by omega),show(i+2)*2=4+i*2 by omega,e,a]
 ·rw[World.ownsRow.cellAt nod _ (by omega),show(i+2)*2+1=4+(i*2+1) by omega,e,b]
theorem StX.num {R:List ND} {nv:Value} {V:Nat→Value} {L:Nat→List Int} {j g n c:Nat} (h:StX w s R nv V L P M) (h1:1≤j) (h3:j≤3) (e:V j=.slice (some ⟨g,0,none⟩) n c) (hn:n=(L j).length) {i:Nat} (hi:i<(L j).length):w.cell? ⟨g,i,none⟩=some (.int .i64 ((L j).getD i 0)):=by
 have hr:=h.row j h1 h3
 rw[e,hn] at hr
 rw[World.ownsRow.cellAt hr i (by omega),zC_get (L j) hi]
theorem StX.shape {R:List ND} {nv:Value} {V:Nat→Value} {L:Nat→List Int} (h:StX w s R nv V L P M) (hl:∀j,1≤j→j≤3→0<(L j).length):(∃ng nc,nv=.slice (some ⟨ng,0,none⟩) (R.length+2) nc)∧∀j,1≤j→j≤3→∃g c,V j=.slice (some ⟨g,0,none⟩) (L j).length c:=by
 refine⟨?_,fun j h1 h3=>?_⟩
 ·obtain⟨ao,c,e,hp⟩:=own_shape h.nod
  obtain⟨g,rfl⟩:=hp (by omega)
  exact⟨g,c,e⟩
 ·obtain⟨ao,c,e,hp⟩:=own_shape (h.row j h1 h3)
  obtain⟨g,rfl⟩:=hp (hl j h1 h3)
  exact⟨g,c,e⟩
set_option maxRecDepth 100000 in
set_option maxHeartbeats 8000000 in
theorem mkD_any (h:St w s S D P M) (hz:ZBk w kb ks) (hp:¬P kb) (hm:May S D (l0:Int) ks) (hl:D.length≤1649267441664):
 Calls Try.prog 93 #[.pointer (some ⟨s,0,none⟩),.int .i64 (l0:Int),.slice (some ⟨kb,0,none⟩) ks.length kc] w fun e w'=>M1L S D (l0:Int) ks kb s P M w e w':=by
 obtain⟨i3,hi3,hz30,hz31,hz32⟩:=info_parts Try.info3
 obtain⟨i47,hi47,hz470,hz471,hz472⟩:=info_parts Try.info47
 obtain⟨R,nv,V,L,hx,hD,ok,hask,hhash⟩:=h
 have hRD:R.length=D.length:=by rw[←hD,List.length_map]
 have HKS:Hid (0<ks.length∧ks.length≤256∧(∀k∈ks,0≤k∧k≤8796093022208)∧∀c,c<ks.length→hasR D (ks.getD c 0)):=by
  have h1:=hm.len
  have h2:=hm.lt
  have h3:=ok.sz.each (S.getD (l0:Int).toNat 0) (by rw[List.getD_eq_getElem?_getD,List.getElem?_eq_getElem (by omega)];exact List.getElem_mem _)
  refine⟨by omega,by omega,fun k hk=>?_,fun c hc=>?_⟩
  ·have:=(hm.kid k hk).1
   exact⟨this.1,by have:=this.2;omega⟩
  ·rw[List.getD_eq_getElem?_getD,List.getElem?_eq_getElem hc]
   exact(hm.kid _ (List.getElem_mem hc)).1
 have hl0:l0≤11:=by have h1:=hm.lt;have h2:=ok.sz.le;omega
 obtain⟨⟨ng,nc,rfl⟩,hsh⟩:=hx.shape (fun j h1 h3=>by
  rcases (show j=1∨j=2∨j=3 by omega) with rfl|rfl|rfl
  ·rw[hask.al];omega
  ·rw[hhash.hl];omega
  ·rw[hhash.xl];omega)
 obtain⟨ag,ac,hv1⟩:=hsh 1 (by decide) (by decide)
 obtain⟨hg,hc,hv2⟩:=hsh 2 (by decide) (by decide)
 obtain⟨xg,xc,hv3⟩:=hsh 3 (by decide) (by decide)
 rw[hask.al,←hRD] at hv1
 rw[hhash.hl] at hv2
 rw[hhash.xl,←hRD] at hv3
 have HX:=hide hx
 have HV:=hide (And.intro hv1 (And.intro hv2 hv3))
 have HD:=hide hD
 have HRD:=hide hRD
 have HOK:=hide ok
 have HASK:=hide hask
 have HHASH:=hide hhash
 have HZ:=hide hz
 have HP:=hide hp
 have HM:=hide hm
 have hRl:R.length≤1649267441664:=by omega
 have SC:Hid (∀W,Below w.heap.size w W→W.cell? ⟨s,0,none⟩=some (.slice (some ⟨ng,0,none⟩) (R.length+2) nc)∧W.cell? ⟨s,1,none⟩=some (.slice (some ⟨ag,0,none⟩) (R.length+2) ac)∧W.cell? ⟨s,2,none⟩=some (.slice (some ⟨hg,0,none⟩) 16384 hc)∧W.cell? ⟨s,3,none⟩=some (.slice (some ⟨xg,0,none⟩) (R.length+2) xc)):=fun W hW=>by
  have:=(HX.out.below hW).cells
  rw[HV.out.1,HV.out.2.1,HV.out.2.2] at this
  exact this
 have KC:Hid (∀W,Below w.heap.size w W→∀i,i<ks.length→W.cell? ⟨kb,i,none⟩=some (.int .i64 (ks.getD i 0))):=fun W hW i hi=>(HZ.out.below hW).cell hi
 clear hx hD ok hask hhash hz hp hm hv1 hv2 hv3 hsh hRD hl
 have hk0:=HKS.out.1
 have hk256:=HKS.out.2.1
 have hk0':(0:Int)<(ks.length:Int):=by omega
 go_enter Try.func93,Try.ntmps93
 go_upto_block 0 with fail
 go_cut [7] (fun v7 wx=>∃b:Bool,v7=.bool b∧Hid (OneB ks b)∧Hid (Below w.heap.size w wx))
 case first=>
  go_wp2
  go_loopw [7,8] (fun v7 v8 wr=>∃(b:Bool) (i:Nat),v7=.bool b∧v8=.int .i64 (i:Int)∧i≤ks.length∧Hid (OneU ks i b)∧Hid (Below w.heap.size w wr)) (fun _ v _=>ks.length-(RowKit.intOf v).toNat)
  case atStart=>exact⟨true,0,rfl,rfl,Nat.zero_le _,⟨fun _ j hj=>absurd hj (by omega),fun _=>rfl⟩,Below.refl _ _⟩
  case round=>
   obtain⟨b,i,rfl,rfl,hi,HB,BL⟩:=hrel
   by_cases hlt:i<ks.length
   ·have hlt':(i:Int)<(ks.length:Int):=by omega
    have q1:=KC.out wr BL.out i hlt
    have q0:=KC.out wr BL.out 0 hk0
    obtain⟨x,hxx⟩:∃x,ks.getD i 0=x:=⟨_,rfl⟩
    obtain⟨y,hyy⟩:∃y,ks.getD 0 0=y:=⟨_,rfl⟩
    rw[hxx] at q1
    rw[hyy] at q0
    have HXX:=hide hxx
    have HYY:=hide hyy
    clear hxx hyy
    have NXT:Hid (∀b':Bool,(b'=(b&&decide (x=y)))→OneU ks (i+1) b'):=fun b' e=>by
     have hb:=HB.out
     unfold OneU at hb ⊢
     rw[e,Bool.and_eq_true,hb,decide_eq_true_eq]
     constructor
     ·rintro⟨h1,h2⟩ j hj
      rcases Nat.lt_or_ge j i with h3|h3
      ·exact h1 j h3
      ·rw[show j=i by omega,HXX.out,HYY.out,h2]
     ·intro h1
      exact⟨fun j hj=>h1 j (by omega),by have:=h1 i (by omega);rwa [HXX.out,HYY.out] at this⟩
    cases b
    ·go_wp2
     go_quiet (fail)
     go_wp2
     go_roundw
     case rel=>exact⟨false,i+1,rfl,by go_num,by omega,NXT.out false rfl,below_drewN BL.out _⟩
     case measure=>simp[RowKit.intOf];omega
    ·by_cases e1:x=y
     ·have N2:=hide (NXT.out true (by rw[decide_eq_true e1];rfl))
      subst e1
      go_wp2
      go_quiet (fail)
      go_wp2
      go_roundw
      case rel=>exact⟨true,i+1,rfl,by go_num,by omega,N2,below_drewN BL.out _⟩
      case measure=>simp[RowKit.intOf];omega
     ·have N2:=hide (NXT.out false (by rw[decide_eq_false e1];rfl))
      go_wp2
      go_quiet (fail)
      go_wp2
      go_roundw
      case rel=>exact⟨false,i+1,congrArg Value.bool (beq_eq_false_iff_ne.2 e1),by go_num,by omega,N2,below_drewN BL.out _⟩
      case measure=>simp[RowKit.intOf];omega
   ·have hlt':¬(i:Int)<(ks.length:Int):=by omega
    have HB2:Hid (OneB ks b):=by
     have hb:=HB.out
     unfold OneU at hb
     refine hb.trans ⟨fun h1=>One.of_all hk0 (fun c hc=>h1 c (by omega)),fun h1 j hj=>?_⟩
     have hj':j<ks.length:=by omega
     have:=h1 _ (List.getElem_mem hj')
     rw[List.getD_eq_getElem?_getD,List.getElem?_eq_getElem hj']
     exact this
    go_wp2
    go_meet
    exact⟨b,rfl,HB2,BL⟩
 obtain⟨b,rfl,HONE,BL⟩:=hcut
 cases b
 rotate_left
 ·have q0:=KC.out wc BL.out 0 hk0
  obtain⟨z0,hz0⟩:∃z0,ks.getD 0 0=z0:=⟨_,rfl⟩
  rw[hz0] at q0
  have HZ0:=hide hz0.symm
  clear hz0
  have ST1:Hid (St wc s S D P M):=⟨R,_,V,L,HX.out.below BL.out,HD.out,HOK.out,HASK.out,HHASH.out⟩
  go_wp2
  go_ret
  exact⟨_,D,P,M,rfl,.inr (.inl ⟨HM.out,HONE.out.1 rfl,HZ0.out,rfl,rfl⟩),ST1.out,Kept.of_below BL.out,fun k hk=>.inl hk,fun k hk=>.inl hk⟩
 have NONE:Hid (¬One ks):=fun h1=>by have:=HONE.out.2 h1;cases this
 clear HONE
 have RW:=hide (row_any (w:=wc) (some ⟨kb,0,none⟩) kc ks (l0:Int) (by omega) (by omega) hk256 (HZ.out.below BL.out).at HKS.out.2.2.1)
 obtain⟨r,hr⟩:∃r:Nat,hrF (l0:Int) ks=(r:Int):=⟨(hrF (l0:Int) ks).toNat,by have:=(hrF_rng (l0:Int) ks).1;omega⟩
 have hr2:r<16384:=by have:=(hrF_rng (l0:Int) ks).2;omega
 have HR:=hide hr
 rw[hr] at RW
 clear hr
 go_upto_region 9 with(go_at_call 95;refine RW.out.mono ?_;rintro e w2 ⟨rfl,h⟩;rw[h];clear h)
 clear RW
 obtain⟨s0,s1,s2,s3⟩:=SC.out wc BL.out
 have hh:=(HX.out.below BL.out).num (j:=2) (by decide) (by decide) HV.out.2.1 HHASH.out.hl.symm (i:=r) (by rw[HHASH.out.hl];exact hr2)
 obtain⟨hd,hhd⟩:∃hd,(L 2).getD r 0=hd:=⟨_,rfl⟩
 rw[hhd] at hh
 have hr2':(r:Int)<16384:=by omega
 obtain⟨C0,hC1,hC2⟩:=HHASH.out.at' r hr2
 rw[hhd] at hC1
 have HHD:=hide hhd
 have HC1:=hide hC1
 have HC2:=hide hC2
 clear hhd hC1 hC2
 go_upto_block 2 with fail
 clear s0 s1 s2 s3 hh
 go_cut [] (fun wx=>Hid ((((l0:Nat):Int),ks)∉D)∧Hid (Below w.heap.size w wx))
 case first=>
  go_wp2
  go_loopw [10] (fun v10 wr=>∃k:Int,v10=.int .i64 k∧ -1≤k∧k<(R.length:Int)+2∧Hid (∃C,Chn (L 3) k C∧(∀j∈C,j∈C0)∧∀j∈C0,j∈C∨D.getD (j-2).toNat (0,[])≠((l0:Int),ks))∧Hid (Below w.heap.size w wr)) (fun v _=>(RowKit.intOf v+1).toNat)
  case atStart=>
   refine⟨hd,rfl,?_,?_,⟨C0,HC1.out,fun j h=>h,fun j h=>.inl h⟩,BL⟩
   ·rcases chn_low HC1.out with h|⟨h,_⟩<;>omega
   ·rcases chn_low HC1.out with h|⟨_,h⟩
    ·omega
    ·have:=((HC2.out _).1 h).2.1
     have:=HRD.out
     omega
  case round=>
   obtain⟨k,rfl,hk1,hk2,HC,BR⟩:=hrel
   clear BL
   obtain⟨s0,s1,s2,s3⟩:=SC.out wr BR.out
   by_cases hge:0≤k
   ·obtain⟨C,c1,c2,c3⟩:=HC.out
    obtain⟨k2,hkC⟩:=(chn_low c1).resolve_left (by omega)
    rcases C with _|⟨z,C⟩
    ·simp at hkC
    obtain⟨rfl,_,c4,c5⟩:=c1
    obtain⟨m,hi⟩:∃m:Nat,k=(m:Int):=⟨k.toNat,by omega⟩
    subst hi
    obtain⟨i,him⟩:∃i,i=m-2:=⟨_,rfl⟩
    have hmi:m=i+2:=by omega
    have HMI:=hide hmi
    have hiR:i<R.length:=by omega
    obtain⟨n0,n1⟩:=(HX.out.below BR.out).node hiR
    obtain⟨⟨yl,yks,ykb,ykc⟩,hy⟩:∃y,R[i]=y:=⟨_,rfl⟩
    have NC:Hid (∀W,Below w.heap.size w W→W.cell? ⟨ng,m*2,none⟩=some (.int .i64 yl)∧W.cell? ⟨ng,m*2+1,none⟩=some (.slice (some ⟨ykb,0,none⟩) yks.length ykc)∧ZBk W ykb yks):=fun W hW=>by
     have h0:=HX.out.below hW
     obtain⟨a,b⟩:=h0.node hiR
     have c:=h0.kid _ (List.getElem_mem hiR)
     rw[hy] at a b c
     rw[HMI.out]
     exact⟨a,b,c⟩
    have HDY:Hid (D.getD i (0,[])=(yl,yks)):=by
     unfold Hid
     rw[←HD.out,List.getD_eq_getElem?_getD,List.getElem?_map,List.getElem?_eq_getElem hiR,hy]
     rfl
    have hyl:yks.length≤256:=by
     have h1:=HOK.out.may (i:=i) (by rw[←HRD.out];exact hiR)
     have e:D[i]'(by rw[←HRD.out];exact hiR)=(yl,yks):=by
      have:=HDY.out
      rw[List.getD_eq_getElem?_getD,List.getElem?_eq_getElem (by rw[←HRD.out];exact hiR)] at this
      exact this
     rw[e] at h1
     have h2:=h1.len
     have h3:=h1.lt
     have h4:=HOK.out.sz.each (S.getD yl.toNat 0) (by rw[List.getD_eq_getElem?_getD,List.getElem?_eq_getElem (by have:=h1.ge;omega)];exact List.getElem_mem _)
     simp only at h2
     omega
    obtain⟨n0,n1,n2⟩:=NC.out wr BR.out
    have EQ:=hide (equal_any (some ⟨ykb,0,none⟩) (some ⟨kb,0,none⟩) ykc kc yks ks wr (by omega) n2.at (HZ.out.below BR.out).at)
    rw[Int.toNat_natCast] at c4 c5
    obtain⟨nx,hnx⟩:∃nx,(L 3).getD m 0=nx:=⟨_,rfl⟩
    have X3C:Hid (∀W,Below w.heap.size w W→W.cell? ⟨xg,m,none⟩=some (.int .i64 nx)):=fun W hW=>by
     have:=(HX.out.below hW).num (j:=3) (by decide) (by decide) HV.out.2.2 (by rw[HHASH.out.xl,HRD.out]) (i:=m) (by rw[HHASH.out.xl,←HRD.out];omega)
     rw[hnx] at this
     exact this
    rw[hnx] at c4 c5
    have hnl: -1≤nx:=by rcases chn_low c5 with h|⟨h,_⟩<;>omega
    have GO:Hid ((yl,yks)≠((l0:Int),ks)→∃C,Chn (L 3) nx C∧(∀j∈C,j∈C0)∧∀j∈C0,j∈C∨D.getD (j-2).toNat (0,[])≠((l0:Int),ks)):=fun hne=>⟨C,c5,fun j hj=>c2 j (by simp[hj]),fun j hj=>by
     rcases c3 j hj with h|h
     ·rcases List.mem_cons.1 h with h|h
      ·refine .inr ?_
       rw[h,show((m:Int)-2).toNat=i by have:=HMI.out;omega,HDY.out]
       exact hne
      ·exact .inl h
     ·exact .inr h⟩
    have hib:(m:Int)<((R.length+2:Nat):Int):=by omega
    have hib2:(m:Int)<(R.length:Int)+2:=by omega
    clear c2 c3 c5 hkC hnx hy HC n2 him hmi
    by_cases hke:yks=ks
    ·rw[decide_eq_true hke] at EQ
     subst yks
     by_cases hle:yl=(l0:Int)
     ·subst hle
      have FOUND:Hid (D[i]? =some ((l0:Int),ks)):=by
       have:=HDY.out
       rw[List.getD_eq_getElem?_getD,List.getElem?_eq_getElem (by rw[←HRD.out];exact hiR)] at this
       unfold Hid
       rw[List.getElem?_eq_getElem (by rw[←HRD.out];exact hiR)]
       exact congrArg some this
      go_upto_region 13 with(go_at_call 96;refine EQ.out.mono ?_;clear EQ;rintro e w3 ⟨rfl,x3⟩;have X3:=hide x3;clear x3)
      have B3:=hide (bt BR.out X3.out (Nat.le_refl _))
      clear s0 s1 s2 s3 n0 n1
      obtain⟨s0,s1,s2,s3⟩:=SC.out w3 B3.out
      obtain⟨n0,n1,-⟩:=NC.out w3 B3.out
      have ST3:Hid (St w3 s S D P M):=⟨R,_,V,L,HX.out.below B3.out,HD.out,HOK.out,HASK.out,HHASH.out⟩
      go_wp2
      go_ret
      exact⟨_,D,P,M,rfl,.inr (.inr (.inl ⟨HM.out,NONE.out,⟨i,FOUND.out,by rw[HMI.out];omega⟩,rfl,rfl⟩)),ST3.out,Kept.of_below B3.out,fun k hk=>.inl hk,fun k hk=>.inl hk⟩
     ·have GO2:=hide (GO.out (fun e=>hle (congrArg Prod.fst e)))
      go_upto_region 13 with(go_at_call 96;refine EQ.out.mono ?_;clear EQ;rintro e w3 ⟨rfl,x3⟩;have X3:=hide x3;clear x3)
      have B3:=hide (bt BR.out X3.out (Nat.le_refl _))
      clear s0 s1 s2 s3 n0 n1
      obtain⟨s0,s1,s2,s3⟩:=SC.out w3 B3.out
      obtain⟨n0,n1,-⟩:=NC.out w3 B3.out
      have x3:=X3C.out w3 B3.out
      clear GO
      go_wp2
      go_roundw
      case rel=>exact⟨nx,rfl,hnl,by omega,GO2,B3⟩
      case measure=>simp[RowKit.intOf];omega
    ·rw[decide_eq_false hke] at EQ
     have GO2:=hide (GO.out (fun e=>hke (congrArg Prod.snd e)))
     go_upto_region 13 with(go_at_call 96;refine EQ.out.mono ?_;clear EQ;rintro e w3 ⟨rfl,x3⟩;have X3:=hide x3;clear x3)
     have B3:=hide (bt BR.out X3.out (Nat.le_refl _))
     clear s0 s1 s2 s3 n0 n1
     obtain⟨s0,s1,s2,s3⟩:=SC.out w3 B3.out
     have x3:=X3C.out w3 B3.out
     clear GO
     go_wp2
     go_roundw
     case rel=>exact⟨nx,rfl,hnl,by omega,GO2,B3⟩
     case measure=>simp[RowKit.intOf];omega
   ·have NI:Hid ((((l0:Nat):Int),ks)∉D):=fun hmem=>by
     obtain⟨C,c1,_,c3⟩:=HC.out
     obtain⟨i,hi,e⟩:=List.getElem_of_mem hmem
     have hgd:D.getD i (0,[])=((l0:Int),ks):=by rw[List.getD_eq_getElem?_getD,List.getElem?_eq_getElem hi,e];rfl
     have hin:((i:Int)+2)∈C0:=(HC2.out _).2 ⟨by omega,by omega,by rw[show((i:Int)+2-2).toNat=i by omega,hgd];exact HR.out⟩
     rcases c3 _ hin with h|h
     ·rcases C with _|⟨z,C⟩
      ·simp at h
      ·have:=c1.1
       have:=c1.2.1
       omega
     ·rw[show((i:Int)+2-2).toNat=i by omega] at h
      exact h hgd
    go_wp2
    go_meet
    exact⟨NI,BR⟩
 obtain⟨HNI,BL2⟩:=hcut
 clear HC1 HC2 BL
 generalize wc=wd at *
 obtain⟨m0,hm0⟩:∃m0:Nat,(2:Int)^l0=(m0:Int):=⟨2^l0,by simp⟩
 have hm0':m0=2^l0:=by
  have h:((2^l0:Nat):Int)=(m0:Int):=by rw[←hm0];simp
  exact(Int.ofNat.inj h).symm
 have hp12:2^l0≤2^11:=Nat.pow_le_pow_right (by decide) hl0
 have MK0:Hid (m0<4096∧∀l,m0.testBit l=true↔l=l0∨∃c,c<0∧Dpd S D (ks.getD c 0) l):=⟨by omega,fun l=>by
  rw[hm0',Nat.testBit_two_pow,decide_eq_true_eq]
  exact⟨fun e=>.inl e.symm,fun e=>by rcases e with e|⟨c,hc,_⟩;(exact e.symm);(omega)⟩⟩
 have ew:IntKind.i64.wrap ((2:Int)^l0)=(m0:Int):=by rw[hm0];simp[IntKind.wrap,IntKind.bits,IntKind.signed];omega
 have ls0:(0:Int)≤(l0:Int):=by omega
 have ls1:(l0:Int)≤64:=by omega
 clear hm0 hm0' hp12
 go_upto_block 4 with fail
 clear ew ls0 ls1
 go_cut [12] (fun v12 wx=>∃m:Nat,v12=.int .i64 (m:Int)∧Hid (m<4096∧∀l,m.testBit l=true↔l=l0∨∃c,c<ks.length∧Dpd S D (ks.getD c 0) l)∧Hid (Below w.heap.size w wx))
 case first=>
  go_wp2
  go_loopw [12,13] (fun v12 v13 wr=>∃(m i:Nat),v12=.int .i64 (m:Int)∧v13=.int .i64 (i:Int)∧i≤ks.length∧Hid (m<4096∧∀l,m.testBit l=true↔l=l0∨∃c,c<i∧Dpd S D (ks.getD c 0) l)∧Hid (Below w.heap.size w wr)) (fun _ v _=>ks.length-(RowKit.intOf v).toNat)
  case atStart=>exact⟨m0,0,rfl,rfl,Nat.zero_le _,MK0,BL2⟩
  case round=>
   obtain⟨m,i,rfl,rfl,hi,HMK,BR⟩:=hrel
   clear MK0
   by_cases hlt:i<ks.length
   ·have hlt':(i:Int)<(ks.length:Int):=by omega
    obtain⟨s0,s1,s2,s3⟩:=SC.out wr BR.out
    have q1:=KC.out wr BR.out i hlt
    have hkh:=HKS.out.2.2.2 i hlt
    obtain⟨k,hkk⟩:∃k,ks.getD i 0=k:=⟨_,rfl⟩
    rw[hkk] at q1 hkh
    obtain⟨f,hf⟩:∃f:Nat,k=(f:Int):=⟨k.toNat,by have:=hkh.1;omega⟩
    subst hf
    have hfl:f<R.length+2:=by have:=hkh.2;have:=HRD.out;omega
    obtain⟨m',a1,a2,a3⟩:=HASK.out.at' f (by have:=HRD.out;omega)
    have q2:=(HX.out.below BR.out).num (j:=1) (by decide) (by decide) HV.out.1 (by rw[HASK.out.al,HRD.out]) (i:=f) (by rw[HASK.out.al,←HRD.out];exact hfl)
    rw[a1] at q2
    have ho:=or_bits HMK.out.1 a2
    have hfl':(f:Int)<((R.length+2:Nat):Int):=by omega
    have hfl2:(f:Int)<(R.length:Int)+2:=by omega
    obtain⟨mo,hmo⟩:∃mo,m|||m'=mo:=⟨_,rfl⟩
    rw[hmo] at ho
    have MK2:Hid (mo<4096∧∀l,mo.testBit l=true↔l=l0∨∃c,c<i+1∧Dpd S D (ks.getD c 0) l):=by
     refine⟨by rw[←hmo];exact Nat.or_lt_two_pow (n:=12) (by have:=HMK.out.1;omega) (by omega),fun l=>?_⟩
     rw[←hmo,Nat.testBit_or,Bool.or_eq_true,HMK.out.2,a3,←hkk]
     constructor
     ·rintro((e|⟨c,hc,hd⟩)|e)
      ·exact .inl e
      ·exact .inr ⟨c,by omega,hd⟩
      ·exact .inr ⟨i,by omega,e⟩
     ·rintro(e|⟨c,hc,hd⟩)
      ·exact .inl (.inl e)
      ·rcases Nat.lt_or_ge c i with h|h
       ·exact .inl (.inr ⟨c,h,hd⟩)
       ·rw[show c=i by omega] at hd
        exact .inr hd
    clear a1 a2 a3 hkk hkh hmo
    go_wp2
    go_quiet (fail)
    go_wp2
    go_roundw
    case rel=>exact⟨mo,i+1,by first|rfl|(congr 1),by go_num,by omega,MK2,below_drewN BR.out _⟩
    case measure=>simp[RowKit.intOf];omega
   ·have hlt':¬(i:Int)<(ks.length:Int):=by omega
    have e:i=ks.length:=by omega
    rw[e] at HMK
    clear e
    go_wp2
    go_meet
    exact⟨m,rfl,HMK,BR⟩
 obtain⟨m,rfl,HMK,BL3⟩:=hcut
 clear MK0 BL2
 generalize wc=we at *
 have HXE:=hide (HX.out.below BL3.out)
 have HSN:Hid (s≠ng∧s≠ag∧s≠hg∧s≠xg):=by
  have hb:=HXE.out.blk
  obtain⟨cs,h5⟩:=own_ty HXE.out.nod ng rfl
  obtain⟨cs1,h6⟩:=own_ty (HXE.out.row 1 (by decide) (by decide)) ag (by rw[HV.out.1];rfl)
  obtain⟨cs2,h7⟩:=own_ty (HXE.out.row 2 (by decide) (by decide)) hg (by rw[HV.out.2.1];rfl)
  obtain⟨cs3,h8⟩:=own_ty (HXE.out.row 3 (by decide) (by decide)) xg (by rw[HV.out.2.2];rfl)
  exact⟨blocks_ne hb h5 (by decide),blocks_ne hb h6 (by decide),blocks_ne hb h7 (by decide),blocks_ne hb h8 (by decide)⟩
 obtain⟨s0,s1,s2,s3⟩:=SC.out we BL3.out
 have Y1:Hid (Below we.heap.size we (we.alloc (.cells #[.int .i64 (l0:Int),.slice (some ⟨kb,0,none⟩) ks.length kc] 86))):=al (Below.refl _ _) _
 have N1:=hide (own_below HXE.out.nod Y1.out)
 go_upto_region 21 with(at_builtin;refine wpList_append_lies _ rfl (.tmp 102) (.tmp 106) 63 rfl 0 86 i47 (.agg #[.int .i64 0,.slice none 0 0]) 2 32 Try.underlying63 hi47 hz470 hz471 hz472 rfl (by decide) _ (R.length+2) (z4++ndC R) rfl N1.out ⟨we.heap.size,0,none⟩ 1 1 [.int .i64 (l0:Int),.slice (some ⟨kb,0,none⟩) ks.length kc] rfl rfl (two_new we _ _ _) (by simp[Value.oneCell']) (by decide) (by unfold maxLen;omega) (by omega) (Nat.zero_le _) _ rfl ?_;intro g8 cap8 w8 h1 h2 h3 h4;have O8:=hide h1;have K8:=hide (kept_of_grown h2);have H8:=hide h3;have hb8:=(K8.out.block s (Nat.lt_of_lt_of_le (lt_of_block HXE.out.blk) Y1.out.size) (fun e=>HSN.out.1 (Option.some.inj e).symm)).trans ((Y1.out.block s (lt_of_block HXE.out.blk)).trans HXE.out.blk);have c8:=cell_of_row w8 s 0 _ _ _ hb8;have f8:=frozen_of_row w8 s 0 _ _ hb8;clear h1 h2 h3 h4 hb8)
 have AD:=HXE.out.addN (y:=⟨(l0:Int),ks,kb,kc⟩) (nv':=.slice (some ⟨g8,0,none⟩) (R.length+3) cap8) (HZ.out.below BL3.out) HP.out Y1.out K8.out (by
  have:=O8.out
  rw[List.append_assoc,show ndC R++[Value.int .i64 (l0:Int),.slice (some ⟨kb,0,none⟩) ks.length kc]=ndC (R++[⟨(l0:Int),ks,kb,kc⟩]) by simp[ndC]] at this
  exact this) (fun k hk=>by
  have e:g8=k:=Option.some.inj hk
  rcases H8.out with h|h
  ·exact .inl (by rw[←e];exact h)
  ·exact .inr (by rw[←e,h];exact Y1.out.size))
 have X20:=hide AD.1
 have K20:=hide AD.2
 clear c8 f8 s0 s1 s2 s3 N1 Y1 AD O8 K8
 generalize w8.setCell ⟨s,0,none⟩ (.slice (some ⟨g8,0,none⟩) (R.length+3) cap8)=w20 at *
 obtain⟨s0,s1,s2,s3⟩:=X20.out.cells
 rw[HV.out.1] at s1
 rw[HV.out.2.1] at s2
 rw[HV.out.2.2] at s3
 have hml:=HMK.out.1
 have Y2:Hid (Below w20.heap.size w20 (w20.alloc (.cells #[.int .i64 (m:Int)] 3))):=al (Below.refl _ _) _
 have N2:Hid ((w20.alloc (.cells #[.int .i64 (m:Int)] 3)).ownsRow 0 3 1 (.slice (some ⟨ag,0,none⟩) (R.length+2) ac) (R.length+2) (zC (L 1))):=by
  have:=own_below (X20.out.row 1 (by decide) (by decide)) Y2.out
  rw[HV.out.1,HASK.out.al,←HRD.out] at this
  exact this
 go_upto_region 22 with(at_builtin;refine wpList_append_lies _ rfl (.tmp 114) (.tmp 116) 22 rfl 0 3 i3 (.int .i64 0) 1 8 Try.underlying22 hi3 hz30 hz31 hz32 rfl (by decide) _ (R.length+2) (zC (L 1)) rfl N2.out ⟨w20.heap.size,0,none⟩ 1 1 [.int .i64 (m:Int)] rfl rfl (one_new w20 _ _) (by simp[Value.oneCell']) (by decide) (by unfold maxLen;omega) (by omega) (Nat.zero_le _) _ rfl ?_;intro g9 cap9 w9 h1 h2 h3 h4;have O9:=hide h1;have K9:=hide ((Kept.of_below (F:=fun k=>(Value.slice (some ⟨ag,0,none⟩) (R.length+2) ac).ownBlock=some k) Y2.out).trans_new (kept_of_grown h2) (fun _ _ h=>h));have H9:=hide h3;have hb9:=(K9.out.block s (lt_of_block X20.out.blk) (fun e=>HSN.out.2.1 (Option.some.inj e).symm)).trans X20.out.blk;have c9:=cell_of_row w9 s 1 _ _ _ hb9;have f9:=frozen_of_row w9 s 1 _ _ hb9;clear h1 h2 h3 h4 hb9)
 have AD2:=X20.out.setJ (j:=1) (v':=.slice (some ⟨g9,0,none⟩) (R.length+3) cap9) (l':=L 1++[(m:Int)]) (by decide) (by decide) (by rw[HV.out.1];exact K9.out) (by
  have:=O9.out
  rw[show zC (L 1)++[Value.int .i64 (m:Int)]=zC (L 1++[(m:Int)]) by simp[zC]] at this
  rw[List.length_append,HASK.out.al,←HRD.out]
  exact this) (fun k hk=>by
  have e:g9=k:=Option.some.inj hk
  rw[HV.out.1]
  rcases H9.out with h|h
  ·exact .inl (by rw[←e];exact h)
  ·exact .inr (by rw[←e,h];exact Y2.out.size))
 have X21:=hide AD2.1
 have K21:=hide AD2.2
 clear c9 f9 s0 s1 s2 s3 N2 Y2 AD2 O9 K9
 generalize w9.setCell ⟨s,1,none⟩ (.slice (some ⟨g9,0,none⟩) (R.length+3) cap9)=w21 at *
 have V21:Hid (∀W,Below w21.heap.size w21 W→W.cell? ⟨s,2,none⟩=some (.slice (some ⟨hg,0,none⟩) 16384 hc)∧W.cell? ⟨s,3,none⟩=some (.slice (some ⟨xg,0,none⟩) (R.length+2) xc)∧W.cell? ⟨hg,r,none⟩=some (.int .i64 hd)):=fun W hW=>by
  obtain⟨_,_,b,c⟩:=(X21.out.below hW).cells
  have d:=(X21.out.below hW).num (j:=2) (by decide) (by decide) (g:=hg) (n:=16384) (c:=hc) HV.out.2.1 HHASH.out.hl.symm (i:=r) (by show r<(L 2).length;rw[HHASH.out.hl];exact hr2)
  refine⟨b.trans (congrArg some HV.out.2.1),c.trans (congrArg some HV.out.2.2),?_⟩
  rw[←HHD.out]
  exact d
 have HHX:Hid (hg≠xg):=fun e=>X21.out.apart 2 3 (by decide) (by decide) (by decide) (by decide) (by decide) hg (by show(V 2).ownBlock=_;rw[HV.out.2.1];rfl) (by show(V 3).ownBlock=_;rw[HV.out.2.2,e];rfl)
 have XD:Hid (Below w21.heap.size w21 w21.drew):=(Below.refl _ w21).drew
 refine wp_unt (S:=fun V=>V.cell? ⟨s,2,none⟩=some (.slice (some ⟨hg,0,none⟩) 16384 hc)∧V.cell? ⟨s,3,none⟩=some (.slice (some ⟨xg,0,none⟩) (R.length+2) xc)∧V.cell? ⟨hg,r,none⟩=some (.int .i64 hd)) 16 (by kernel_rfl) ?_
 generalize w21.drew=wd at *
 have HS0:=hide (V21.out wd XD.out)
 have HWD:Hid (w21.heap.size≤wd.heap.size):=XD.out.size
 refine UntH.tk 0 rfl 120 HS0.out (fun w' ⟨q0,q1,q2⟩=>by go_simp;first|done|rfl) ?_
 refine UntH.tk 1 rfl 121 HS0.out (fun w' ⟨q0,q1,q2⟩=>by go_simp;first|done|rfl) ?_
 refine UntH.tk 2 rfl 122 HS0.out (fun w' ⟨q0,q1,q2⟩=>by go_simp;first|done|rfl) ?_
 refine UntH.tk 3 rfl 123 HS0.out (fun w' ⟨q0,q1,q2⟩=>by go_simp;first|done|rfl) ?_
 refine UntH.tk 4 rfl 124 HS0.out (fun w' ⟨q0,q1,q2⟩=>by go_simp;first|done|rfl) ?_
 refine UntH.tk 5 rfl 125 HS0.out (fun w' ⟨q0,q1,q2⟩=>by go_simp;first|done|rfl) ?_
 refine UntH.tk 6 rfl 126 HS0.out (fun w' ⟨q0,q1,q2⟩=>by go_simp;first|done|rfl) ?_
 refine UntH.tk 7 rfl 127 HS0.out (fun w' ⟨q0,q1,q2⟩=>by go_simp;first|done|rfl) ?_
 refine UntH.tk 8 rfl 128 HS0.out (fun w' ⟨q0,q1,q2⟩=>by go_simp;first|done|rfl) ?_
 refine UntH.tk 9 rfl 129 HS0.out (fun w' ⟨q0,q1,q2⟩=>by go_simp;first|done|rfl) ?_
 refine UntH.tk 10 rfl 130 HS0.out (fun w' ⟨q0,q1,q2⟩=>by go_simp;first|done|rfl) ?_
 refine UntH.tk 11 rfl 131 HS0.out (fun w' ⟨q0,q1,q2⟩=>by go_simp;first|done|rfl) ?_
 try simp only[Act.put,List.setIfInBounds_toArray,List.set_cons_zero,List.set_cons_succ]
 have Y3:Hid (Below wd.heap.size wd (wd.alloc (.cells #[.int .i64 hd] 3))):=al (Below.refl _ _) _
 have HS1:=hide (V21.out _ (bt XD.out Y3.out (Nat.le_refl _)))
 refine UntH.step (i:=12) (by kernel_rfl) rfl (fun K hK=>?_)
 go_simp
 refine hK _ _ HS1.out ?_
 clear hK K
 try simp only[Act.put,List.setIfInBounds_toArray,List.set_cons_zero,List.set_cons_succ]
 have N3:Hid ((wd.alloc (.cells #[.int .i64 hd] 3)).ownsRow 0 3 1 (.slice (some ⟨xg,0,none⟩) (R.length+2) xc) (R.length+2) (zC (L 3))):=by
  have:(wd.alloc (.cells #[.int .i64 hd] 3)).ownsRow 0 3 1 (V 3) (L 3).length (zC (L 3)):=own_below (X21.out.row 3 (by decide) (by decide)) (bt XD.out Y3.out (Nat.le_refl _))
  rw[HV.out.2.2,HHASH.out.xl,←HRD.out] at this
  exact this
 refine UntH.step (i:=13) (by kernel_rfl) rfl (fun K hK=>?_)
 refine step_append_lies _ (by rfl) (.tmp 124) (.tmp 132) 22 (by rfl) 0 3 i3 (.int .i64 0) 1 8 Try.underlying22 hi3 hz30 hz31 hz32 rfl (by decide) _ (R.length+2) (zC (L 3)) (by rfl) N3.out ⟨wd.heap.size,0,none⟩ 1 1 [.int .i64 hd] (by rfl) (by rfl) (one_new wd _ _) (by simp[Value.oneCell']) (by decide) (by unfold maxLen;omega) (by omega) (Nat.zero_le _) _ rfl ?_
 intro g10 cap10 w10 h1 h2 h3 h4
 have O10:=hide h1
 have H10:=hide h3
 have YD:=hide (bt XD.out Y3.out (Nat.le_refl _))
 have K10:=hide ((Kept.of_below (F:=fun k=>(Value.slice (some ⟨xg,0,none⟩) (R.length+2) xc).ownBlock=some k) YD.out).trans_new (kept_of_grown h2) (fun _ _ h=>h))
 have hb10:=(K10.out.block s (lt_of_block X21.out.blk) (fun e=>HSN.out.2.2.2 (Option.some.inj e).symm)).trans X21.out.blk
 have HGL:Hid (hg<w21.heap.size):=X21.out.mlt (X21.out.pv 2 (by decide) (by decide) hg (by show(V 2).ownBlock=_;rw[HV.out.2.1];rfl))
 have HS2:Hid (w10.cell? ⟨s,2,none⟩=some (.slice (some ⟨hg,0,none⟩) 16384 hc)∧w10.cell? ⟨s,3,none⟩=some (.slice (some ⟨xg,0,none⟩) (R.length+2) xc)∧w10.cell? ⟨hg,r,none⟩=some (.int .i64 hd)):=by
  obtain⟨a,b,c⟩:=V21.out w21 (Below.refl _ _)
  refine⟨(World.cell?_of_block (w:=w21) (hb10.trans X21.out.blk.symm)).trans a,(World.cell?_of_block (w:=w21) (hb10.trans X21.out.blk.symm)).trans b,(World.cell?_of_block (w:=w21) (K10.out.block hg HGL.out (fun e=>HHX.out (Option.some.inj e).symm))).trans c⟩
 have f10:=frozen_of_row w10 s 3 _ _ hb10
 refine hK _ _ HS2.out ?_
 clear hK K h1 h2 h3 h4 hb10
 try simp only[Act.put,List.setIfInBounds_toArray]
 refine UntH.tk 14 rfl 134 HS2.out (fun w' ⟨q0,q1,q2⟩=>by go_simp;first|done|rfl) ?_
 try simp only[Act.put]
 refine UntH.tk 15 rfl 135 HS2.out (fun w' ⟨q0,q1,q2⟩=>by go_simp;first|done|rfl) ?_
 try simp only[Act.put]
 have c10:=HS2.out.2.1
 refine UntH.last (by kernel_rfl) rfl (by kernel_rfl) (by kernel_rfl) (fun K hK=>?_)
 go_simp
 refine hK _ _ ?_
 clear hK K HS0 HS1 HS2 c10 f10 N3
 have AD3:=X21.out.setJ (j:=3) (v':=.slice (some ⟨g10,0,none⟩) (R.length+3) cap10) (l':=L 3++[hd]) (by decide) (by decide) (by show Kept (fun k=>(V 3).ownBlock=some k) _ _;rw[HV.out.2.2];exact K10.out) (by
  have:=O10.out
  rw[show zC (L 3)++[Value.int .i64 hd]=zC (L 3++[hd]) by simp[zC]] at this
  rw[List.length_append,HHASH.out.xl,←HRD.out]
  exact this) (fun k hk=>by
  have e:g10=k:=Option.some.inj hk
  show(V 3).ownBlock=some k∨_
  rw[HV.out.2.2]
  rcases H10.out with h|h
  ·exact .inl (by rw[←e];exact h)
  ·exact .inr (by rw[←e,h];exact YD.out.size))
 have X22:=hide AD3.1
 have K22:=hide AD3.2
 clear O10 K10 YD Y3 XD AD3 V21 HGL
 generalize w10.setCell ⟨s,3,none⟩ (.slice (some ⟨g10,0,none⟩) (R.length+3) cap10)=w22 at *
 have V22:Hid (∀W,Below w22.heap.size w22 W→W.cell? ⟨s,0,none⟩=some (.slice (some ⟨g8,0,none⟩) (R.length+3) cap8)∧W.cell? ⟨s,2,none⟩=some (.slice (some ⟨hg,0,none⟩) 16384 hc)∧W.cell? ⟨hg,r,none⟩=some (.int .i64 hd)∧W.frozen? ⟨hg,r,none⟩=false):=fun W hW=>by
  have x:=X22.out.below hW
  obtain⟨a,_,b,_⟩:=x.cells
  have d:=x.num (j:=2) (by decide) (by decide) (g:=hg) (n:=16384) (c:=hc) HV.out.2.1 HHASH.out.hl.symm (i:=r) (by show r<(L 2).length;rw[HHASH.out.hl];exact hr2)
  obtain⟨cs,h5⟩:=own_ty (x.row 2 (by decide) (by decide)) hg (by show(V 2).ownBlock=_;rw[HV.out.2.1];rfl)
  refine⟨a,b.trans (congrArg some HV.out.2.1),?_,frozen_of_row W hg r _ _ h5⟩
  rw[←HHD.out]
  exact d
 have XD2:Hid (Below w22.heap.size w22 w22.drew):=(Below.refl _ w22).drew
 have elen:IntKind.i64.wrap (((R.length+3:Nat):Int)-1)=(R.length:Int)+2:=by simp[IntKind.wrap,IntKind.bits,IntKind.signed];omega
 have elen2:IntKind.i64.wrap ((R.length:Int)+3-1)=(R.length:Int)+2:=by simp[IntKind.wrap,IntKind.bits,IntKind.signed];omega
 go_upto_region 23 with fail
 refine wp_unt (S:=fun V=>V=w22.drew) 12 (by kernel_rfl) ?_
 generalize w22.drew=wf at *
 obtain⟨s0,s2,h0,f0⟩:=V22.out wf XD2.out
 refine UntH.tk 0 rfl 136 rfl (fun w' hw'=>by subst hw';go_simp;first|done|rfl) ?_
 refine UntH.tk 1 rfl 137 rfl (fun w' hw'=>by subst hw';go_simp;first|done|rfl) ?_
 refine UntH.tk 2 rfl 138 rfl (fun w' hw'=>by subst hw';go_simp;first|done|rfl) ?_
 refine UntH.tk 3 rfl 139 rfl (fun w' hw'=>by subst hw';go_simp;first|done|rfl) ?_
 refine UntH.tk 4 rfl 140 rfl (fun w' hw'=>by subst hw';go_simp;first|done|rfl) ?_
 refine UntH.tk 5 rfl 141 rfl (fun w' hw'=>by subst hw';go_simp;first|done|rfl) ?_
 refine UntH.tk 6 rfl 142 rfl (fun w' hw'=>by subst hw';go_simp;first|done|rfl) ?_
 refine UntH.tk 7 rfl 143 rfl (fun w' hw'=>by subst hw';go_simp;first|done|rfl) ?_
 refine UntH.tk 8 rfl 144 rfl (fun w' hw'=>by subst hw';go_simp;first|done|rfl) ?_
 refine UntH.tk 9 rfl 145 rfl (fun w' hw'=>by subst hw';go_simp;first|done|rfl) ?_
 refine UntH.tk 10 rfl 146 rfl (fun w' hw'=>by subst hw';go_simp;first|done|rfl) ?_
 refine UntH.tk 11 rfl 147 rfl (fun w' hw'=>by subst hw';go_simp;first|done|rfl) ?_
 try simp only[Act.put,List.setIfInBounds_toArray,List.set_cons_zero,List.set_cons_succ]
 refine UntH.last (by kernel_rfl) rfl (by kernel_rfl) (by kernel_rfl) (fun K hK=>?_)
 go_simp
 refine hK _ _ ?_
 clear hK K elen elen2 s0 s2 h0 f0
 have AD4:=(X22.out.below XD2.out).putJ (j:=2) (by decide) (by decide) (g:=hg) (n:=16384) (c:=hc) HV.out.2.1 HHASH.out.hl.symm r ((R.length:Int)+2)
 have X23:=hide AD4.1
 have K23:=hide AD4.2
 clear AD4
 generalize wf.setCell ⟨hg,r,none⟩ (.int .i64 ((R.length:Int)+2))=wg at *
 obtain⟨_,_,s2,_⟩:=X23.out.cells
 replace s2:wg.cell? ⟨s,2,none⟩=some (.slice (some ⟨hg,0,none⟩) 16384 hc):=s2.trans (congrArg some HV.out.2.1)
 have h0:wg.cell? ⟨hg,r,none⟩=some (.int .i64 ((R.length:Int)+2)):=by
  have d:=X23.out.num (j:=2) (by decide) (by decide) (g:=hg) (n:=16384) (c:=hc) HV.out.2.1 (by show _=((L 2).set r _).length;rw[List.length_set];exact HHASH.out.hl.symm) (i:=r) (by show r<((L 2).set r _).length;rw[List.length_set,HHASH.out.hl];exact hr2)
  rw[d]
  exact congrArg (fun z=>some (Value.int .i64 z)) (getD_here (by show r<(L 2).length;rw[HHASH.out.hl];exact hr2))
 go_wp2
 go_ret
 have NB8:Hid (∀k,(Value.slice (some ⟨g8,0,none⟩) (R.length+3) cap8).ownBlock=some k→M k∨w.heap.size≤k):=fun k hk=>by
  have e:g8=k:=Option.some.inj hk
  rcases H8.out with h|h
  ·exact .inl (HX.out.pn k (by rw[←e];exact h))
  ·have h5:we.heap.size≤(we.alloc (.cells #[.int .i64 (l0:Int),.slice (some ⟨kb,0,none⟩) ks.length kc] 86)).heap.size:=by simp
   have:=BL3.out.size
   exact .inr (by rw[←e,h];omega)
 have NB9:Hid (∀k,(Value.slice (some ⟨g9,0,none⟩) (R.length+3) cap9).ownBlock=some k→M k∨w.heap.size≤k):=fun k hk=>by
  have e:g9=k:=Option.some.inj hk
  rcases H9.out with h|h
  ·exact .inl (HX.out.pv 1 (by decide) (by decide) k (by rw[HV.out.1,←e];exact h))
  ·have h5:w20.heap.size≤(w20.alloc (.cells #[.int .i64 (m:Int)] 3)).heap.size:=by simp
   have z0:=BL3.out.size
   have z1:=K20.out.size
   exact .inr (by rw[←e,h];omega)
 have NB10:Hid (∀k,(Value.slice (some ⟨g10,0,none⟩) (R.length+3) cap10).ownBlock=some k→M k∨w.heap.size≤k):=fun k hk=>by
  have e:g10=k:=Option.some.inj hk
  rcases H10.out with h|h
  ·exact .inl (HX.out.pv 3 (by decide) (by decide) k (by rw[HV.out.2.2,←e];exact h))
  ·have h5:wd.heap.size≤(wd.alloc (.cells #[.int .i64 hd] 3)).heap.size:=by simp
   have h6:=HWD.out
   have z0:=BL3.out.size
   have z1:=K20.out.size
   have z2:=K21.out.size
   exact .inr (by rw[←e,h];omega)
 have hD2:Ok S MB (D++[((l0:Int),ks)]):=HOK.out.add HM.out NONE.out HNI.out (by have:=HRD.out;show(D.length:Int)<4398046511104;omega)
 refine⟨_,D++[((l0:Int),ks)],_,_,rfl,.inr (.inr (.inr (.inr ⟨HM.out,NONE.out,HNI.out,by have:=HRD.out;show(D.length:Int)<4398046511104;omega,by rw[HRD.out],rfl,rfl⟩))),⟨_,_,_,_,X23.out,by rw[List.map_append,HD.out];rfl,hD2,?_,?_⟩,?_,?_,?_⟩
 ·exact HASK.out.add HOK.out hD2 rfl HMK.out.1 HMK.out.2 HKS.out.2.2.2
 ·have:=HHASH.out.add (lv:=(l0:Int)) (ks:=ks) hr2 HR.out
  rw[HHD.out,←HRD.out] at this
  exact this
 ·have k0:Kept M w we:=Kept.of_below BL3.out
  have k1:Kept M we w20:=K20.out.mono (fun k hk=>by
   rcases hk with hk|hk
   ·exact HX.out.pn k hk
   ·rw[hk];exact HX.out.ps)
  have k2:Kept M w20 w21:=K21.out.mono (fun k hk=>by
   rcases hk with hk|hk
   ·exact HX.out.pv 1 (by decide) (by decide) k hk
   ·rw[hk];exact HX.out.ps)
  have k3:Kept M w21 w22:=K22.out.mono (fun k hk=>by
   rcases hk with hk|hk
   ·exact HX.out.pv 3 (by decide) (by decide) k hk
   ·rw[hk];exact HX.out.ps)
  have k4:Kept M wf wg:=K23.out.mono (fun k hk=>by rw[hk];exact HX.out.pv 2 (by decide) (by decide) hg (by rw[HV.out.2.1];rfl))
  exact(((k0.trans k1).trans k2).trans k3).trans ((Kept.of_below XD2.out).trans k4)
 ·intro k hk
  rcases hk with((hk|hk|hk)|hk)|hk
  ·exact .inl hk
  ·exact(NB8.out k hk).imp (HX.out.mp k) .inr
  ·exact .inr (.inl hk)
  ·exact(NB9.out k hk).imp (HX.out.mp k) .inr
  ·exact(NB10.out k hk).imp (HX.out.mp k) .inr
 ·intro k hk
  rcases hk with((hk|hk)|hk)|hk
  ·exact .inl hk
  ·exact NB8.out k hk
  ·exact NB9.out k hk
  ·exact NB10.out k hk
end
end Go.Proofs.Ytnddhkhmbjeefaa

