/-
  rebuilds by its contract: both Rebuilds are alike, and stay so. Conditions: arguments within the statement's own bound.
-/
import Derived.Deep.DeepCutAuto
import Derived.Deep.CutBlock
import Derived.Test.YtnddhkhmbjeefaaC49
namespace Go.Proofs.Ytnddhkhmbjeefaa
open Go.RowKit Go.Lib Go.Maps
section
variable {w:World} {bb a x:Nat} {so:Option Addr} {bc:Nat} {S:List Int} {N:List Nd} {rs qs o:List Int} {most:Int}
set_option maxRecDepth 100000 in
set_option maxHeartbeats 8000000 in
theorem rebuilds_any (h:BoY w bb a x so bc S N rs) (qo oo:Option Addr) (qc oc:Nat) (hq:ZAt w qo qs) (hql:qs.length≤214748364) (ho:ZAt w oo o) (hol:o.length≤214748364):
 Calls Try.prog 13 #[.pointer (some ⟨bb,0,none⟩),.slice qo qs.length qc,.slice oo o.length oc,.int .i64 most] w fun e w'=>e=.returned (.bool true)∧Below w.heap.size w w':=by
 obtain⟨i3,hi3,hz30,hz31,hz32⟩:=info_parts Try.info3
 have HB:=hide h
 have HQ:=hide hq
 have HO:=hide ho
 have L1:=hide (lentK qo qc hql hq)
 have L2:Hid (∀V,Below w.heap.size w V→Calls Try.prog 35 #[.slice oo o.length oc] V fun e w'=>∃g,e=.returned (.slice (some ⟨g,0,none⟩) (o.length+2) (o.length+2))∧RwZ w' g (o++[-77,-77])∧V.heap.size≤g∧Below V.heap.size V w'):=fun V hV=>lentK oo oc hol (ho.below hV)
 obtain⟨n1,hn1⟩:∃n1,qs.length+2=n1:=⟨_,rfl⟩
 obtain⟨n2,hn2⟩:∃n2,o.length+2=n2:=⟨_,rfl⟩
 have HN1:=hide hn1
 have HN2:=hide hn2
 rw[hn1] at L1
 rw[hn2] at L2
 have i1:(qs.length:Int)≤(n1:Int):=by omega
 have i2:(o.length:Int)≤(n2:Int):=by omega
 clear h hq ho hn1 hn2
 go_enter Try.func13,Try.ntmps13
 go_upto_region 3 with(first
  |(go_at_call 35;refine L1.out.mono ?_;clear L1;rintro e w1 ⟨gr,rfl,zr,hgr,x1⟩;have ZR1:=hide zr;have GR1:=hide hgr;have X1:=hide x1;clear zr hgr x1)
  |(go_at_call 35;refine(L2.out w1 X1.out).mono ?_;clear L2;rintro e w2 ⟨go,rfl,zo,hgo,x2⟩;have ZO2:=hide zo;have GO2:=hide hgo;have ZR2:=hide (ZR1.out.below x2);have X2:=hide (bt X1.out x2 (Nat.le_refl _));clear zo hgo x2))
 have GRO:Hid (gr≠go∧go<w2.heap.size∧gr<w2.heap.size∧w.heap.size≤gr∧w.heap.size≤go):=by
  have h1:=ZR1.out.lt
  have h2:=GO2.out
  have h3:=X1.out.size
  have h4:=GR1.out
  have h5:=ZO2.out.lt
  have h6:=ZR2.out.lt
  exact⟨by omega,h5,h6,h4,by omega⟩
 clear ZR1 GR1 GO2 X1
 have XD:Hid (Below w2.heap.size w2 w2.drew):=(Below.refl _ w2).drew
 refine wp_unt (S:=fun V=>V.cell? ⟨bb,0,none⟩=some (.pointer (some ⟨a,0,none⟩))) 20 (by kernel_rfl) ?_
 have SZD:Hid (w2.drew.heap.size=w2.heap.size):=rfl
 generalize w2.drew=wd at *
 have BD:Hid (Below w.heap.size w wd):=bt X2.out XD.out (Nat.le_refl _)
 have HS0:=hide (HB.out.below BD.out).cells.1
 have REB:Hid (Calls Try.prog 12 #[.pointer (some ⟨a,0,none⟩),.slice (some ⟨gr,0,none⟩) qs.length n1,.slice (some ⟨go,0,none⟩) o.length n2,.int .i64 most] wd fun e w'=>RbC S o qs most N wd e w'):=(HB.out.below BD.out).rebC _ _ _ _ (lent_zat (ZR2.out.below XD.out)).1 (lent_zat (ZO2.out.below XD.out)).1 hql hol
 refine UntH.tk 0 rfl 31 HS0.out (fun w' q0=>by go_simp;first|done|rfl) ?_
 refine UntH.tk 1 rfl 32 HS0.out (fun w' q0=>by go_simp;first|done|rfl) ?_
 refine UntH.tk 2 rfl 33 HS0.out (fun w' q0=>by go_simp;first|done|rfl) ?_
 refine UntH.tk 3 rfl 34 HS0.out (fun w' q0=>by go_simp;first|done|rfl) ?_
 refine UntH.tk 4 rfl 35 HS0.out (fun w' q0=>by go_simp;first|done|rfl) ?_
 refine UntH.tk 5 rfl 36 HS0.out (fun w' q0=>by go_simp;first|done|rfl) ?_
 refine UntH.tk 6 rfl 37 HS0.out (fun w' q0=>by go_simp;first|done|rfl) ?_
 refine UntH.tk 7 rfl 38 HS0.out (fun w' q0=>by go_simp;first|done|rfl) ?_
 refine UntH.tk 8 rfl 39 HS0.out (fun w' q0=>by go_simp;first|done|rfl) ?_
 refine UntH.tk 9 rfl 40 HS0.out (fun w' q0=>by go_simp;first|done|rfl) ?_
 refine UntH.tk 10 rfl 41 HS0.out (fun w' q0=>by go_simp;first|done|rfl) ?_
 refine UntH.tk 11 rfl 42 HS0.out (fun w' q0=>by go_simp;first|done|rfl) ?_
 refine UntH.tk 12 rfl 43 HS0.out (fun w' q0=>by go_simp;first|done|rfl) ?_
 try simp only[Act.put,List.setIfInBounds_toArray,List.set_cons_zero,List.set_cons_succ]
 refine UntH.step (i:=13) (by kernel_rfl) rfl (fun K hK=>?_)
 go_simp
 refine REB.out.mono ?_
 rintro e w3 hrb
 obtain⟨pa,la,ln,lc,er,rfl,x3,hre⟩:=hrb.one
 have X3:=hide x3
 have HRE:=hide hre
 have B3:Hid (Below w.heap.size w w3):=bt BD.out x3 (Nat.le_refl _)
 have HS1:=hide (HB.out.below B3.out).cells.1
 clear hrb hre x3
 refine hK _ _ HS1.out ?_
 clear hK K
 refine UntH.tk 14 rfl 30 HS1.out (fun w' q0=>by go_simp;first|done|rfl) ?_
 refine UntH.tk 15 rfl 45 HS1.out (fun w' q0=>by go_simp;first|done|rfl) ?_
 refine UntH.tk 16 rfl 46 HS1.out (fun w' q0=>by go_simp;first|done|rfl) ?_
 refine UntH.tk 17 rfl 47 HS1.out (fun w' q0=>by go_simp;first|done|rfl) ?_
 refine UntH.tk 18 rfl 11 HS1.out (fun w' q0=>by go_simp;first|done|rfl) ?_
 refine UntH.tk 19 rfl 12 HS1.out (fun w' q0=>by go_simp;first|done|rfl) ?_
 try simp only[Act.put,List.setIfInBounds_toArray,List.set_cons_zero,List.set_cons_succ]
 refine UntH.last (by kernel_rfl) rfl (by kernel_rfl) (by kernel_rfl) (fun K hK=>?_)
 go_simp
 refine hK _ _ ?_
 clear hK K HS0 HS1 REB
 obtain⟨-,bx1,-⟩:=(HB.out.below B3.out).cells
 have RED:Hid (Calls Try.prog 36 #[.pointer (some ⟨x,0,none⟩),.slice qo qs.length qc,.slice oo o.length oc,.int .i64 most] w3 fun e w'=>RbD S o qs most N w3 e w'):=(HB.out.below B3.out).rebD _ _ _ _ (HQ.out.below B3.out) (HO.out.below B3.out) hql hol
 have HSO:=hide HB.out.bx.ok.sz
 go_upto_region 5 with(go_at_call 36;refine RED.out.mono ?_;clear RED;rintro e w4 hrd;obtain⟨px,lx,lcx,I,rfl,x4,hln,hiq,hres⟩:=re_two HSO.out HRE.out X3.out.size hrd;have X4:=hide x4;have HLN:=hide hln;have RES:=hide hres;clear hrd x4 hln hres)
 clear bx1 HRE
 have hln:=HLN.out
 subst hln
 have Z34:Hid (Below w2.heap.size w2 w4):=bt XD.out (bt X3.out X4.out (Nat.le_refl _)) (Nat.le_refl _)
 have ZR4:=hide (ZR2.out.below Z34.out)
 have ZO4:=hide (ZO2.out.below Z34.out)
 have B4:Hid (Below w.heap.size w w4):=bt B3.out X4.out (Nat.le_refl _)
 have RES4:Hid ((∃c g y N2 P Q,pa=some ⟨c,0,none⟩∧la=some ⟨g,0,none⟩∧px=some ⟨y,0,none⟩∧lc=I.length∧SzOk (ledS S o)∧OkR w2.heap.size w4 c g y lx lcx (ledS S o) most N2 P Q I)∨(pa=none∧px=none∧la=none∧lx=none∧I=[])):=by
  have:=RES.out
  rw[SZD.out] at this
  exact this
 clear ZR2 ZO2 Z34 X4 X3 XD X2 RES B3 BD HLN SZD
 have KP1:=hide (kept_any qo qc (by omega) (HQ.out.below B4.out) ZR4.out)
 rw[HN1.out] at KP1
 go_upto_region 6 with(go_at_call 37;refine KP1.out.mono ?_;clear KP1;rintro e w5 ⟨rfl,k5⟩;have K5:=hide k5;clear k5)
 have B5:Hid (Below w.heap.size w w5):=B4.out.trans (K5.out.below B4.out.size (fun k hk=>by rw[hk];exact GRO.out.2.2.2.1))
 have ZO5:=hide (ZO4.out.kept K5.out (fun e=>GRO.out.1 e.symm))
 have KP2:=hide (kept_any oo oc (by omega) (HO.out.below B5.out) ZO5.out)
 rw[HN2.out] at KP2
 go_upto_region 7 with(go_at_call 37;refine KP2.out.mono ?_;clear KP2;rintro e w6 ⟨rfl,k6⟩;have K6:=hide k6;clear k6)
 have B6:Hid (Below w.heap.size w w6):=B5.out.trans (K6.out.below B5.out.size (fun k hk=>by rw[hk];exact GRO.out.2.2.2.2))
 have RES6:Hid ((∃c g y N2 P Q,pa=some ⟨c,0,none⟩∧la=some ⟨g,0,none⟩∧px=some ⟨y,0,none⟩∧lc=I.length∧SzOk (ledS S o)∧OkR w2.heap.size w6 c g y lx lcx (ledS S o) most N2 P Q I)∨(pa=none∧px=none∧la=none∧lx=none∧I=[])):=by
  rcases RES4.out with⟨c,g,y,N2,P,Q,h1,h2,h3,h4,h5,h6⟩|h
  ·exact .inl ⟨c,g,y,N2,P,Q,h1,h2,h3,h4,h5,(h6.kept K5.out (fun j hj=>by rw[hj];exact GRO.out.2.2.1)).kept K6.out (fun j hj=>by rw[hj];exact GRO.out.2.1)⟩
  ·exact .inr h
 have BW:Hid (w.heap.size≤w2.heap.size):=by have h1:=GRO.out.2.2;unfold Hid;omega
 clear RES4 K5 K6 B4 B5 ZR4 ZO4 ZO5 GRO HN1 HN2 HQ HO
 have ZZ:Hid (ZAt w6 la I∧ZAt w6 lx I∧I.length≤214748364):=by
  rcases RES6.out with⟨c,g,y,N2,P,Q,h1,h2,h3,h4,h5,h6⟩|⟨_,_,_,_,h⟩
  ·rw[h2]
   exact⟨h6.zl.zbk.at,own_zat h6.row,by omega⟩
  ·rw[h]
   exact⟨.inl rfl,.inl rfl,by simp⟩
 have INT:Hid (Calls Try.prog 23 #[.slice la I.length lc,.slice lx I.length lcx] w6 fun e w'=>e=.returned (.bool true)∧Below w6.heap.size w6 w'):=by
  have:=ints_any la lx lc lcx I I w6 (by have:=ZZ.out.2.2;omega) ZZ.out.1 ZZ.out.2.1
  rw[show decide (I=I)=true by simp] at this
  exact this
 go_upto_region 8 with(go_at_call 23;refine INT.out.mono ?_;clear INT;rintro e w7 ⟨rfl,x7⟩;have X7:=hide x7;clear x7)
 have B7:Hid (Below w.heap.size w w7):=bt B6.out X7.out (Nat.le_refl _)
 have XD:Hid (Below w7.heap.size w7 w7.drew):=(Below.refl _ w7).drew
 refine wp_unt (S:=fun V=>V.cell? ⟨bb,0,none⟩=some (.pointer (some ⟨a,0,none⟩))∧V.cell? ⟨bb,1,none⟩=some (.pointer (some ⟨x,0,none⟩))) 9 (by kernel_rfl) ?_
 generalize w7.drew=wd2 at *
 have BD2:Hid (Below w.heap.size w wd2):=bt B7.out XD.out (Nat.le_refl _)
 have HS0:Hid ((fun V=>V.cell? ⟨bb,0,none⟩=some (.pointer (some ⟨a,0,none⟩))∧V.cell? ⟨bb,1,none⟩=some (.pointer (some ⟨x,0,none⟩))) wd2):=⟨(HB.out.below BD2.out).cells.1,(HB.out.below BD2.out).cells.2.1⟩
 have BTH:=hide (HB.out.below BD2.out).both
 refine UntH.tk 0 rfl 69 HS0.out (fun w' ⟨q0,q1⟩=>by go_simp;first|done|rfl) ?_
 refine UntH.tk 1 rfl 70 HS0.out (fun w' ⟨q0,q1⟩=>by go_simp;first|done|rfl) ?_
 refine UntH.tk 2 rfl 71 HS0.out (fun w' ⟨q0,q1⟩=>by go_simp;first|done|rfl) ?_
 refine UntH.tk 3 rfl 72 HS0.out (fun w' ⟨q0,q1⟩=>by go_simp;first|done|rfl) ?_
 refine UntH.tk 4 rfl 73 HS0.out (fun w' ⟨q0,q1⟩=>by go_simp;first|done|rfl) ?_
 refine UntH.tk 5 rfl 74 HS0.out (fun w' ⟨q0,q1⟩=>by go_simp;first|done|rfl) ?_
 refine UntH.tk 6 rfl 75 HS0.out (fun w' ⟨q0,q1⟩=>by go_simp;first|done|rfl) ?_
 refine UntH.tk 7 rfl 76 HS0.out (fun w' ⟨q0,q1⟩=>by go_simp;first|done|rfl) ?_
 try simp only[Act.put,List.setIfInBounds_toArray,List.set_cons_zero,List.set_cons_succ]
 refine UntH.step (i:=8) (by kernel_rfl) rfl (fun K hK=>?_)
 go_simp
 refine BTH.out.mono ?_
 rintro e w8 ⟨rfl,y1⟩
 have Y1:=hide y1
 have Bw8:Hid (Below w.heap.size w w8):=bt BD2.out y1 (Nat.le_refl _)
 have Kw8:Hid (Below w7.heap.size w7 w8):=bt XD.out y1 (Nat.le_refl _)
 clear y1
 refine hK _ _ ⟨(HB.out.below Bw8.out).cells.1,(HB.out.below Bw8.out).cells.2.1⟩ ?_
 clear hK K
 refine UntH.last (by kernel_rfl) rfl (by kernel_rfl) (by kernel_rfl) (fun K hK=>?_)
 go_simp
 refine hK _ _ ?_
 clear hK K HS0 BTH XD BD2 Y1
 rcases RES6.out with⟨c,g,y,N2,P,Q,rfl,rfl,rfl,rfl,hT,hok⟩|⟨rfl,rfl,rfl,rfl,rfl⟩
 rotate_left
 ·clear RES6 ZZ
  go_wp2
  go_ret
  exact⟨rfl,Bw8.out⟩
 have OK8:=hide (hok.kept (F:=fun _=>False) (Kept.of_below (bt X7.out Kw8.out (Nat.le_refl _))) (fun _ h=>h.elim))
 have HT:=hide hT
 have hIl:=ZZ.out.2.2
 clear RES6 ZZ hok hT X7 B6 B7 Kw8
 have NDS:=hide (both_any OK8.out.ca OK8.out.ra)
 go_upto_block 0 with(go_at_call 38;refine NDS.out.mono ?_;clear NDS;rintro e w9 ⟨rfl,x9⟩;have X9:=hide x9;clear x9)
 have OK9:=hide (OK8.out.kept (F:=fun _=>False) (Kept.of_below X9.out) (fun _ h=>h.elim))
 have B9:Hid (Below w.heap.size w w9):=bt Bw8.out X9.out (Nat.le_refl _)
 have R9:Hid (∃R:List Int,R.length=I.length∧RwZ w9 g R):=⟨I,rfl,OK9.out.zl⟩
 clear OK8 X9 Bw8
 go_cut [] (fun wx=>Hid (∃R:List Int,R.length=I.length∧RwZ wx g R)∧Hid (Kept (fun k=>k=g) w9 wx))
 case first=>
  go_wp2
  go_loopw [22] (fun v wr=>∃k:Nat,v=.int .i64 (k:Int)∧k≤I.length∧Hid (∃R:List Int,R.length=I.length∧RwZ wr g R)∧Hid (Kept (fun k=>k=g) w9 wr)) (fun v _=>I.length-(RowKit.intOf v).toNat)
  case atStart=>exact⟨0,rfl,Nat.zero_le _,R9,Kept.refl _ _⟩
  case round=>
   obtain⟨k,rfl,hk,RK,KK⟩:=hrel
   clear R9
   by_cases hlt:k<I.length
   ·have hlt':(k:Int)<(I.length:Int):=by omega
    obtain⟨R,hRl,hR⟩:=RK.out
    have c1:=hR.cell (k:=k) (by omega)
    have f1:=hR.fro k
    have R2:Hid (∃R:List Int,R.length=I.length∧RwZ (wr.setCell ⟨g,k,none⟩ (.int .i64 (-5))) g R):=⟨R.set k (-5),by rw[List.length_set];exact hRl,hR.set k (-5)⟩
    have K2:Hid (Kept (fun k=>k=g) w9 (wr.setCell ⟨g,k,none⟩ (.int .i64 (-5)))):=KK.out.setCell (F:=fun k=>k=g) (p:=⟨g,k,none⟩) rfl _
    clear hR hRl RK KK
    go_wp2
    go_roundw
    case rel=>exact⟨k+1,by go_num,by omega,R2,K2⟩
    case measure=>simp[RowKit.intOf];omega
   ·have hlt':¬(k:Int)<(I.length:Int):=by omega
    go_wp2
    go_meet
    exact⟨RK,KK⟩
 obtain⟨RK,KK⟩:=hcut
 clear R9
 generalize wc=w10 at *
 have GB:Hid (w.heap.size≤g):=Nat.le_trans BW.out OK9.out.gb
 have B10:Hid (Below w.heap.size w w10):=B9.out.trans (KK.out.below B9.out.size (fun k hk=>by rw[hk];exact GB.out))
 have C10:Hid (CA w10 c (ledS S o) most N2 N2.length P):=OK9.out.ca.kept KK.out (fun k hk e=>OK9.out.pg (e▸hk))
 have HP:Hid ((∀k,P k→w.heap.size≤k)∧¬P g):=⟨fun k hk=>Nat.le_trans BW.out (OK9.out.pb k hk),OK9.out.pg⟩
 obtain⟨R,hRl,hR⟩:=RK.out
 have ROWL:Hid (w10.ownsRow w.heap.size 3 1 (.slice (some ⟨g,0,none⟩) I.length I.length) I.length (zC R)):=⟨by simp[zC,hRl],.inr ⟨g,I.length,_,rfl,GB.out,hR,Nat.le_refl _,by unfold maxLen;omega,by simp[zC,hRl],by rw[←hRl];exact List.take_of_length_le (by simp[zC])⟩⟩
 have HRL:=hide hRl
 clear RK KK OK9 B9 hR hRl BW
 have YY:Hid (Below w10.heap.size w10 (w10.alloc (.cells #[.int .i64 (-5),.int .i64 (-5)] 3))):=al (Below.refl _ _) _
 have ROW:=hide (own_below ROWL.out YY.out)
 have SZ2:Hid (w.heap.size≤(w10.alloc (.cells #[.int .i64 (-5),.int .i64 (-5)] 3)).heap.size):=Nat.le_trans B10.out.size YY.out.size
 go_upto_region 19 with(at_builtin;refine wpList_append_lies _ rfl (.tmp 118) (.tmp 119) 22 rfl w.heap.size 3 i3 (.int .i64 0) 1 8 Try.underlying22 hi3 hz30 hz31 hz32 rfl (by decide) _ I.length (zC R) rfl ROW.out ⟨w10.heap.size,0,none⟩ 2 2 [.int .i64 (-5),.int .i64 (-5)] rfl rfl (two_new w10 _ _ _) (by simp[Value.oneCell']) (by decide) (by unfold maxLen;omega) (by omega) SZ2.out _ rfl ?_;intro g8 cap8 w11 h1 h2 h3 h4;have B11:Hid (Below w.heap.size w w11):=((B10.out.trans (YY.out.mono B10.out.size)).grown h2 SZ2.out (fun j hj=>(World.ownsRow.lt ROWL.out j hj).1));have C11:Hid (CA w11 c (ledS S o) most N2 N2.length P):=((C10.out.below YY.out).kept (kept_grown h2) (fun k hk e=>HP.out.2 (by cases e;exact hk)));clear h1 h2 h3 h4)
 clear ROWL YY ROW SZ2 C10 B10 HRL
 obtain⟨T,hTT⟩:∃T,ledS S o=T:=⟨_,rfl⟩
 rw[hTT] at C11 HT
 clear hTT
 have hT0:=HT.out.ge
 have hm8:N2.length≤8192:=by
  have h1:=C11.out.ok.few
  obtain⟨R1,sb1,sc1,nv1,mb1,h2,_⟩:=C11.out
  have h3:=h2.m8
  omega
 obtain⟨d,hd,hd3⟩:∃d:Nat,T.getD 0 0=(d:Int)+1∧d≤255:=by
  have h1:=HT.out.each (T.getD 0 0) (by rw[List.getD_eq_getElem?_getD,List.getElem?_eq_getElem (by omega)];exact List.getElem_mem _)
  exact⟨(T.getD 0 0-1).toNat,by omega,by omega⟩
 have ew:IntKind.i64.wrap ((d:Int)+1-1)=(d:Int):=by simp[IntKind.wrap,IntKind.bits,IntKind.signed];omega
 have ew0:IntKind.i64.wrap (d:Int)=(d:Int):=by simp[IntKind.wrap,IntKind.bits,IntKind.signed];omega
 have hT0':(0:Int)<(T.length:Int):=by omega
 have YA:Hid (Below w11.heap.size w11 (w11.alloc (.cells #[.int .i64 1] 3))):=al (Below.refl _ _) _
 have KB:=hide (heap_alloc_new w11 (.cells #[.int .i64 1] 3))
 have SZC:Hid (∀V,Below w11.heap.size w11 V→Calls Try.prog 17 #[.pointer (some ⟨c,0,none⟩)] V fun e w'=>∃g c',e=.returned (.slice (some ⟨g,0,none⟩) T.length c')∧ZBk w' g T∧Below V.heap.size V w'):=fun V hV=>((C11.out.below hV).sizes).mono (fun e w' ⟨⟨g,c,h1,_,h2,_⟩,h3⟩=>⟨g,c,h1,h2,h3⟩)
 have HD:=hide hd
 clear hd
 go_upto_region 20 with(first
  |(go_at_call 17;refine(SZC.out _ YA.out).mono ?_;clear SZC;rintro e w12 ⟨sg,sc,rfl,zb,x12⟩;have q12:=zb.cell (i:=0) (by omega);rw[HD.out] at q12;have kb12:=(x12.block _ (lt_of_obj KB.out)).trans KB.out;have k12:w12.cell? ⟨w11.heap.size,0,none⟩=some (.int .i64 1):=(by rw[cell_of_row w12 _ _ _ _ _ kb12];rfl);obtain⟨gz,capz,w13,hrun,zz,x13⟩:=run_append_zeros w12 w11.heap.size d 22 k12 (lt_of_obj kb12) hd3;have X13:Hid (Below w11.heap.size w11 w13):=bt YA.out (bt x12 x13 (Nat.le_refl _)) (Nat.le_refl _);have MK:Hid (Calls Try.prog 22 #[.pointer (some ⟨c,0,none⟩),.int .i64 0,.slice (some ⟨gz,0,none⟩) (1+d) capz] w13 fun e w'=>MkL T most N2 0 (1::List.replicate d 0) w13 e w' (fun N' P' V=>CA V c T most N' (N2.length+1) P') P):=(by have:=(C11.out.below X13.out).make 0 (some ⟨gz,0,none⟩) capz (1::List.replicate d 0) (by simp;omega) zz (by omega);rw[show(1::List.replicate d 0:List Int).length=1+d by simp;omega] at this;exact this);clear zb x12 kb12 k12 zz x13)
  |(at_builtin;refine Lib.wpList_append_run w12 rfl (.tmp 123) (.tmp 128) 22 3 rfl _ _ rfl rfl _ _ hrun ?_;clear hrun)
  |(go_at_call 22;refine MK.out.mono ?_;clear MK;rintro e w14 ⟨f2,er2,N3,rfl,hmk,P3,_,kp,_,_⟩;have ER:=hide (mk_err (may_first HT.out HD.out) hmk);have B14:Hid (Below w.heap.size w w14):=(bt B11.out X13.out (Nat.le_refl _)).trans (kp.below (bt B11.out X13.out (Nat.le_refl _)).size HP.out.1);clear hmk kp))
 clear q12 X13 YA KB HD ew ew0 B11 C11
 have XD:Hid (Below w14.heap.size w14 w14.drew):=(Below.refl _ w14).drew
 refine wp_unt (S:=fun V=>V.cell? ⟨bb,0,none⟩=some (.pointer (some ⟨a,0,none⟩))∧V.cell? ⟨bb,1,none⟩=some (.pointer (some ⟨x,0,none⟩))) 9 (by kernel_rfl) ?_
 generalize w14.drew=wd2 at *
 have BD2:Hid (Below w.heap.size w wd2):=bt B14.out XD.out (Nat.le_refl _)
 have HS0:Hid ((fun V=>V.cell? ⟨bb,0,none⟩=some (.pointer (some ⟨a,0,none⟩))∧V.cell? ⟨bb,1,none⟩=some (.pointer (some ⟨x,0,none⟩))) wd2):=⟨(HB.out.below BD2.out).cells.1,(HB.out.below BD2.out).cells.2.1⟩
 have BTH:=hide (HB.out.below BD2.out).both
 refine UntH.tk 0 rfl 133 HS0.out (fun w' ⟨q0,q1⟩=>by go_simp;first|done|rfl) ?_
 refine UntH.tk 1 rfl 134 HS0.out (fun w' ⟨q0,q1⟩=>by go_simp;first|done|rfl) ?_
 refine UntH.tk 2 rfl 135 HS0.out (fun w' ⟨q0,q1⟩=>by go_simp;first|done|rfl) ?_
 refine UntH.tk 3 rfl 136 HS0.out (fun w' ⟨q0,q1⟩=>by go_simp;first|done|rfl) ?_
 refine UntH.tk 4 rfl 137 HS0.out (fun w' ⟨q0,q1⟩=>by go_simp;first|done|rfl) ?_
 refine UntH.tk 5 rfl 138 HS0.out (fun w' ⟨q0,q1⟩=>by go_simp;first|done|rfl) ?_
 refine UntH.tk 6 rfl 139 HS0.out (fun w' ⟨q0,q1⟩=>by go_simp;first|done|rfl) ?_
 refine UntH.tk 7 rfl 140 HS0.out (fun w' ⟨q0,q1⟩=>by go_simp;first|done|rfl) ?_
 try simp only[Act.put,List.setIfInBounds_toArray,List.set_cons_zero,List.set_cons_succ]
 refine UntH.step (i:=8) (by kernel_rfl) rfl (fun K hK=>?_)
 go_simp
 refine BTH.out.mono ?_
 rintro e w15 ⟨rfl,y1⟩
 have Bw15:Hid (Below w.heap.size w w15):=bt BD2.out y1 (Nat.le_refl _)
 have Kw15:Hid (Below w14.heap.size w14 w15):=bt XD.out y1 (Nat.le_refl _)
 clear y1
 refine hK _ _ ⟨(HB.out.below Bw15.out).cells.1,(HB.out.below Bw15.out).cells.2.1⟩ ?_
 clear hK K
 refine UntH.last (by kernel_rfl) rfl (by kernel_rfl) (by kernel_rfl) (fun K hK=>?_)
 go_simp
 refine hK _ _ ?_
 clear hK K HS0 BTH XD BD2
 have ew2:IntKind.i64.wrap ((I.length:Int)+2)=(I.length:Int)+2:=by simp[IntKind.wrap,IntKind.bits,IntKind.signed];omega
 rcases ER.out with rfl|rfl
 ·go_wp2
  go_ret
  exact⟨rfl,Bw15.out⟩
 ·go_wp2
  go_ret
  exact⟨rfl,Bw15.out⟩
end
end Go.Proofs.Ytnddhkhmbjeefaa

