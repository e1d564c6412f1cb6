/-
  The statements' book: both lists of an automaton are taken. Condition: few lists.
-/
import Derived.Test.YtdgoilkgplnhfaaGreatJ41
import Derived.Test.YtdgoilkgplnhfaaGreatJ40
import Derived.Test.YtdgoilkgplnhfaaGreatJ23
import Derived.Test.YtdgoilkgplnhfaaGreatJ34
namespace Go.Proofs.YtdgoilkgplnhfaaGreat
open Go.RowKit Go.Lib
set_option maxRecDepth 100000 in
set_option maxHeartbeats 8000000 in
theorem qel (bs:By) (xa oa:Option Addr) (xn xc on oc bk:Nat) (w0 w:World) (lv:Value) (L:List Value) {sv:Value} (hl:L.length≤1000) (hF:Fr w0 [(lv,22,L),(.slice (some ⟨bk,0,none⟩) 2 2,37,[lv,sv])] w):
 Calls Tryz.prog 18 #[.pointer (some ⟨bk,0,none⟩),auV bs xa xn xc oa on oc] w fun e w'=>e=.returned (.tuple #[])∧∃lv',Fr w0 [(lv',22,L++[.slice xa xn xc,.slice oa on oc]),(.slice (some ⟨bk,0,none⟩) 2 2,37,[lv',sv])] w':=by
 obtain⟨i22,hi22,hz220,hz221,hz222⟩:=info_parts Tryz.info22n;have F1:=qaa (hF.box 24 [.string ⟨bs.toArray⟩,.slice xa xn xc,.slice oa on oc] (by simp[maxLen]));obtain⟨w1,hw1⟩:∃w1,w1=w.alloc (.cells #[.string ⟨bs.toArray⟩,.slice xa xn xc,.slice oa on oc] 24):=⟨_,rfl⟩;obtain⟨bx,hbx⟩:∃bx,bx=w.heap.size:=⟨_,rfl⟩;have F1:Hid (Fr w0 [(.slice (some ⟨bx,0,none⟩) 3 3,24,[.string ⟨bs.toArray⟩,.slice xa xn xc,.slice oa on oc]),(lv,22,L),(.slice (some ⟨bk,0,none⟩) 2 2,37,[lv,sv])] w1):=by rw[hw1,hbx];exact F1.out
 clear hF;unfold auV;go_enter Tryz.func18,Tryz.ntmps18;go_upto_region 1 with fail
 rw[←hw1,←hbx];clear hw1 hbx;have FD:Hid (Fr w0 [(.slice (some ⟨bx,0,none⟩) 3 3,24,[.string ⟨bs.toArray⟩,.slice xa xn xc,.slice oa on oc]),(lv,22,L),(.slice (some ⟨bk,0,none⟩) 2 2,37,[lv,sv])] w1.drew):=F1.out.below (Below.refl _ _).drew;obtain⟨S,HSE⟩:∃S:World→Prop,Hid (∀V,S V↔∃lv' L',Fr w0 [(.slice (some ⟨bx,0,none⟩) 3 3,24,[.string ⟨bs.toArray⟩,.slice xa xn xc,.slice oa on oc]),(lv',22,L'),(.slice (some ⟨bk,0,none⟩) 2 2,37,[lv,sv])] V):=⟨_,fun _=>Iff.rfl⟩;have HRD:Hid (∀V,S V→V.cell? ⟨bk,0,none⟩=some lv∧V.cell? ⟨bx,1,none⟩=some (.slice xa xn xc)∧V.cell? ⟨bx,2,none⟩=some (.slice oa on oc)):=fun V hV=>by
  obtain⟨lv',L',F⟩:=(HSE.out V).1 hV;obtain⟨k0,-⟩:=F.slot (i:=2) (by simp) rfl (k:=0) (by simp);obtain⟨k1,-⟩:=F.slot (i:=0) (by simp) rfl (k:=1) (by simp);obtain⟨k2,-⟩:=F.slot (i:=0) (by simp) rfl (k:=2) (by simp);simp only[List.getElem_cons_succ,List.getElem_cons_zero] at k0 k1 k2;exact⟨k0,k1,k2⟩
 have HS0:Hid (S w1.drew):=(HSE.out _).2 ⟨_,_,FD.out⟩;refine qco (S:=S) 11 (by kernel_rfl) ?_;clear F1;generalize w1.drew=wd at *;refine qaj.tk 0 rfl 4 HS0.out (fun w' hw'=>by obtain⟨q0,q1,q2⟩:=HRD.out w' hw';go_simp;first|done|rfl) ?_
 try simp only[Act.put,List.setIfInBounds_toArray,List.set_cons_zero,List.set_cons_succ]
 refine qaj.tk 1 rfl 5 HS0.out (fun w' hw'=>by obtain⟨q0,q1,q2⟩:=HRD.out w' hw';go_simp;first|done|rfl) ?_
 try simp only[Act.put,List.setIfInBounds_toArray,List.set_cons_zero,List.set_cons_succ]
 refine qaj.tk 2 rfl 6 HS0.out (fun w' hw'=>by obtain⟨q0,q1,q2⟩:=HRD.out w' hw';go_simp;first|done|rfl) ?_
 try simp only[Act.put,List.setIfInBounds_toArray,List.set_cons_zero,List.set_cons_succ]
 refine qaj.tk 3 rfl 7 HS0.out (fun w' hw'=>by obtain⟨q0,q1,q2⟩:=HRD.out w' hw';go_simp;first|done|rfl) ?_
 try simp only[Act.put,List.setIfInBounds_toArray,List.set_cons_zero,List.set_cons_succ]
 refine qaj.tk 4 rfl 8 HS0.out (fun w' hw'=>by obtain⟨q0,q1,q2⟩:=HRD.out w' hw';go_simp;first|done|rfl) ?_
 try simp only[Act.put,List.setIfInBounds_toArray,List.set_cons_zero,List.set_cons_succ]
 refine qaj.tk 5 rfl 9 HS0.out (fun w' hw'=>by obtain⟨q0,q1,q2⟩:=HRD.out w' hw';go_simp;first|done|rfl) ?_
 try simp only[Act.put,List.setIfInBounds_toArray,List.set_cons_zero,List.set_cons_succ]
 refine qaj.tk 6 rfl 10 HS0.out (fun w' hw'=>by obtain⟨q0,q1,q2⟩:=HRD.out w' hw';go_simp;first|done|rfl) ?_
 try simp only[Act.put,List.setIfInBounds_toArray,List.set_cons_zero,List.set_cons_succ]
 have y1:Below wd.heap.size wd (wd.alloc (.cells #[(.slice xa xn xc)] 22)):=al (Below.refl _ _) _;have HS1:Hid (S (wd.alloc (.cells #[(.slice xa xn xc)] 22))):=(HSE.out _).2 ⟨_,_,FD.out.below y1⟩;have HOW:Hid ((wd.alloc (.cells #[(.slice xa xn xc)] 22)).ownsRow w0.heap.size 22 1 lv L.length L):=own_below (FD.out.own (i:=1) (by simp) rfl) y1;have HNW:Hid (∀(j:Nat) (z:Value),[((.slice xa xn xc):Value)][j]? =some z→(wd.alloc (.cells #[(.slice xa xn xc)] 22)).cell? ((⟨wd.heap.size,0,none⟩:Addr).add j)=some z):=fun j z hu=>by
  have hB:=heap_alloc_new wd (.cells #[(.slice xa xn xc)] 22);rw[qbu,cell_of_row _ _ _ _ _ _ hB];simpa using hu
 have HSW:Hid (w0.heap.size≤(wd.alloc (.cells #[(.slice xa xn xc)] 22)).heap.size):=Nat.le_trans FD.out.bel.size y1.size;have HRO:Hid (∀(g1 cap1:Nat) (w7:World),w7.ownsRow w0.heap.size 22 1 (.slice (some ⟨g1,0,none⟩) (L.length+1) cap1) (L.length+1) (L++[(.slice xa xn xc)])→(wd.alloc (.cells #[(.slice xa xn xc)] 22)).grownBy w7 lv.ownBlock→(lv.ownBlock=some g1∨g1=(wd.alloc (.cells #[(.slice xa xn xc)] 22)).heap.size)→Fr w0 [(.slice (some ⟨bx,0,none⟩) 3 3,24,[.string ⟨bs.toArray⟩,.slice xa xn xc,.slice oa on oc]),((.slice (some ⟨g1,0,none⟩) (L.length+1) cap1),22,L++[(.slice xa xn xc)]),(.slice (some ⟨bk,0,none⟩) 2 2,37,[lv,sv])] w7):=fun g1 cap1 w7 h1 h2 h3=>FD.out.lies y1 (i:=1) (by simp) rfl h1 h2 h3
 refine qaj.step (i:=7) (by kernel_rfl) rfl (fun K hK=>?_);go_simp;refine hK _ _ HS1.out ?_;clear hK K;refine qaj.step (i:=8) (by kernel_rfl) rfl (fun K hK=>?_);refine step_append_lies _ (by rfl) (.tmp 8) (.tmp 11) 34 (by rfl) w0.heap.size 22 i22 (.slice none 0 0) 1 24 Tryz.underlying34 hi22 hz220 hz221 hz222 rfl (by decide) _ L.length L (by rfl) HOW.out ⟨wd.heap.size,0,none⟩ 1 1 [(.slice xa xn xc)] (by rfl) (by rfl) HNW.out (by simp[Value.oneCell']) (by decide) (by unfold maxLen;omega) (by omega) HSW.out _ rfl ?_;intro g1 cap1 wb1 h1 h2 h3 h4;have F7:=qaa (HRO.out g1 cap1 wb1 h1 h2 h3);have HS6:Hid (S wb1):=(HSE.out _).2 ⟨_,_,F7.out⟩;refine hK _ _ HS6.out ?_;clear hK K h1 h2 h3 h4;refine qaj.tk 9 rfl 13 HS6.out (fun w' hw'=>by obtain⟨q0,q1,q2⟩:=HRD.out w' hw';go_simp;first|done|rfl) ?_
 try simp only[Act.put,List.setIfInBounds_toArray]
 refine qaj.tk 10 rfl 14 HS6.out (fun w' hw'=>by obtain⟨q0,q1,q2⟩:=HRD.out w' hw';go_simp;first|done|rfl) ?_
 try simp only[Act.put]
 obtain⟨z0,z1⟩:=F7.out.slot (i:=2) (by simp) rfl (k:=0) (by simp);simp only[List.getElem_cons_zero] at z0;have F8:Hid (Fr w0 [(.slice (some ⟨bx,0,none⟩) 3 3,24,[.string ⟨bs.toArray⟩,.slice xa xn xc,.slice oa on oc]),((.slice (some ⟨g1,0,none⟩) (L.length+1) cap1),22,L++[(.slice xa xn xc)]),(.slice (some ⟨bk,0,none⟩) 2 2,37,[(.slice (some ⟨g1,0,none⟩) (L.length+1) cap1),sv])] (wb1.setCell ⟨bk,0,none⟩ (.slice (some ⟨g1,0,none⟩) (L.length+1) cap1))):=F7.out.store (i:=2) (by simp) rfl 0 _;refine qaj.last (by kernel_rfl) rfl (by kernel_rfl) (by kernel_rfl) (fun K hK=>?_);go_simp;refine hK _ _ ?_;clear hK K z0 z1 F7 HOW HNW HSW HRO HS1 HS0 HS6 HRD HSE FD y1;obtain⟨wc1,hwc⟩:∃wc1,wc1=wb1.setCell ⟨bk,0,none⟩ (.slice (some ⟨g1,0,none⟩) (L.length+1) cap1):=⟨_,rfl⟩;rw[←hwc] at F8 ⊢;clear hwc;obtain⟨lv1,hlv1⟩:∃lv1:Value,lv1=.slice (some ⟨g1,0,none⟩) (L.length+1) cap1:=⟨_,rfl⟩;obtain⟨L1,hL1⟩:∃L1:List Value,L1=L++[.slice xa xn xc]:=⟨_,rfl⟩;have hl1:L1.length≤1001:=by rw[hL1];simp;omega
 have F2:=F8;rw[←hlv1,←hL1] at F2;have HL1:=qaa hL1;clear F8 hlv1 hL1;go_upto_region 2 with fail
 have FD:Hid (Fr w0 [(.slice (some ⟨bx,0,none⟩) 3 3,24,[.string ⟨bs.toArray⟩,.slice xa xn xc,.slice oa on oc]),(lv1,22,L1),(.slice (some ⟨bk,0,none⟩) 2 2,37,[lv1,sv])] wc1.drew):=F2.out.below (Below.refl _ _).drew;obtain⟨S,HSE⟩:∃S:World→Prop,Hid (∀V,S V↔∃lv' L',Fr w0 [(.slice (some ⟨bx,0,none⟩) 3 3,24,[.string ⟨bs.toArray⟩,.slice xa xn xc,.slice oa on oc]),(lv',22,L'),(.slice (some ⟨bk,0,none⟩) 2 2,37,[lv1,sv])] V):=⟨_,fun _=>Iff.rfl⟩;have HRD:Hid (∀V,S V→V.cell? ⟨bk,0,none⟩=some lv1∧V.cell? ⟨bx,1,none⟩=some (.slice xa xn xc)∧V.cell? ⟨bx,2,none⟩=some (.slice oa on oc)):=fun V hV=>by
  obtain⟨lv',L',F⟩:=(HSE.out V).1 hV;obtain⟨k0,-⟩:=F.slot (i:=2) (by simp) rfl (k:=0) (by simp);obtain⟨k1,-⟩:=F.slot (i:=0) (by simp) rfl (k:=1) (by simp);obtain⟨k2,-⟩:=F.slot (i:=0) (by simp) rfl (k:=2) (by simp);simp only[List.getElem_cons_succ,List.getElem_cons_zero] at k0 k1 k2;exact⟨k0,k1,k2⟩
 have HS0:Hid (S wc1.drew):=(HSE.out _).2 ⟨_,_,FD.out⟩;refine qco (S:=S) 11 (by kernel_rfl) ?_;clear F2;generalize wc1.drew=wd at *;refine qaj.tk 0 rfl 15 HS0.out (fun w' hw'=>by obtain⟨q0,q1,q2⟩:=HRD.out w' hw';go_simp;first|done|rfl) ?_
 try simp only[Act.put,List.setIfInBounds_toArray,List.set_cons_zero,List.set_cons_succ]
 refine qaj.tk 1 rfl 16 HS0.out (fun w' hw'=>by obtain⟨q0,q1,q2⟩:=HRD.out w' hw';go_simp;first|done|rfl) ?_
 try simp only[Act.put,List.setIfInBounds_toArray,List.set_cons_zero,List.set_cons_succ]
 refine qaj.tk 2 rfl 17 HS0.out (fun w' hw'=>by obtain⟨q0,q1,q2⟩:=HRD.out w' hw';go_simp;first|done|rfl) ?_
 try simp only[Act.put,List.setIfInBounds_toArray,List.set_cons_zero,List.set_cons_succ]
 refine qaj.tk 3 rfl 18 HS0.out (fun w' hw'=>by obtain⟨q0,q1,q2⟩:=HRD.out w' hw';go_simp;first|done|rfl) ?_
 try simp only[Act.put,List.setIfInBounds_toArray,List.set_cons_zero,List.set_cons_succ]
 refine qaj.tk 4 rfl 19 HS0.out (fun w' hw'=>by obtain⟨q0,q1,q2⟩:=HRD.out w' hw';go_simp;first|done|rfl) ?_
 try simp only[Act.put,List.setIfInBounds_toArray,List.set_cons_zero,List.set_cons_succ]
 refine qaj.tk 5 rfl 20 HS0.out (fun w' hw'=>by obtain⟨q0,q1,q2⟩:=HRD.out w' hw';go_simp;first|done|rfl) ?_
 try simp only[Act.put,List.setIfInBounds_toArray,List.set_cons_zero,List.set_cons_succ]
 refine qaj.tk 6 rfl 21 HS0.out (fun w' hw'=>by obtain⟨q0,q1,q2⟩:=HRD.out w' hw';go_simp;first|done|rfl) ?_
 try simp only[Act.put,List.setIfInBounds_toArray,List.set_cons_zero,List.set_cons_succ]
 have y1:Below wd.heap.size wd (wd.alloc (.cells #[(.slice oa on oc)] 22)):=al (Below.refl _ _) _;have HS1:Hid (S (wd.alloc (.cells #[(.slice oa on oc)] 22))):=(HSE.out _).2 ⟨_,_,FD.out.below y1⟩;have HOW:Hid ((wd.alloc (.cells #[(.slice oa on oc)] 22)).ownsRow w0.heap.size 22 1 lv1 L1.length L1):=own_below (FD.out.own (i:=1) (by simp) rfl) y1;have HNW:Hid (∀(j:Nat) (z:Value),[((.slice oa on oc):Value)][j]? =some z→(wd.alloc (.cells #[(.slice oa on oc)] 22)).cell? ((⟨wd.heap.size,0,none⟩:Addr).add j)=some z):=fun j z hu=>by
  have hB:=heap_alloc_new wd (.cells #[(.slice oa on oc)] 22);rw[qbu,cell_of_row _ _ _ _ _ _ hB];simpa using hu
 have HSW:Hid (w0.heap.size≤(wd.alloc (.cells #[(.slice oa on oc)] 22)).heap.size):=Nat.le_trans FD.out.bel.size y1.size;have HRO:Hid (∀(g2 cap2:Nat) (w7:World),w7.ownsRow w0.heap.size 22 1 (.slice (some ⟨g2,0,none⟩) (L1.length+1) cap2) (L1.length+1) (L1++[(.slice oa on oc)])→(wd.alloc (.cells #[(.slice oa on oc)] 22)).grownBy w7 lv1.ownBlock→(lv1.ownBlock=some g2∨g2=(wd.alloc (.cells #[(.slice oa on oc)] 22)).heap.size)→Fr w0 [(.slice (some ⟨bx,0,none⟩) 3 3,24,[.string ⟨bs.toArray⟩,.slice xa xn xc,.slice oa on oc]),((.slice (some ⟨g2,0,none⟩) (L1.length+1) cap2),22,L1++[(.slice oa on oc)]),(.slice (some ⟨bk,0,none⟩) 2 2,37,[lv1,sv])] w7):=fun g2 cap2 w7 h1 h2 h3=>FD.out.lies y1 (i:=1) (by simp) rfl h1 h2 h3
 refine qaj.step (i:=7) (by kernel_rfl) rfl (fun K hK=>?_);go_simp;refine hK _ _ HS1.out ?_;clear hK K;refine qaj.step (i:=8) (by kernel_rfl) rfl (fun K hK=>?_);refine step_append_lies _ (by rfl) (.tmp 19) (.tmp 22) 34 (by rfl) w0.heap.size 22 i22 (.slice none 0 0) 1 24 Tryz.underlying34 hi22 hz220 hz221 hz222 rfl (by decide) _ L1.length L1 (by rfl) HOW.out ⟨wd.heap.size,0,none⟩ 1 1 [(.slice oa on oc)] (by rfl) (by rfl) HNW.out (by simp[Value.oneCell']) (by decide) (by unfold maxLen;omega) (by omega) HSW.out _ rfl ?_;intro g2 cap2 wb2 h1 h2 h3 h4;have F7:=qaa (HRO.out g2 cap2 wb2 h1 h2 h3);have HS6:Hid (S wb2):=(HSE.out _).2 ⟨_,_,F7.out⟩;refine hK _ _ HS6.out ?_;clear hK K h1 h2 h3 h4;refine qaj.tk 9 rfl 24 HS6.out (fun w' hw'=>by obtain⟨q0,q1,q2⟩:=HRD.out w' hw';go_simp;first|done|rfl) ?_
 try simp only[Act.put,List.setIfInBounds_toArray]
 refine qaj.tk 10 rfl 25 HS6.out (fun w' hw'=>by obtain⟨q0,q1,q2⟩:=HRD.out w' hw';go_simp;first|done|rfl) ?_
 try simp only[Act.put]
 obtain⟨z0,z1⟩:=F7.out.slot (i:=2) (by simp) rfl (k:=0) (by simp);simp only[List.getElem_cons_zero] at z0;have F8:Hid (Fr w0 [(.slice (some ⟨bx,0,none⟩) 3 3,24,[.string ⟨bs.toArray⟩,.slice xa xn xc,.slice oa on oc]),((.slice (some ⟨g2,0,none⟩) (L1.length+1) cap2),22,L1++[(.slice oa on oc)]),(.slice (some ⟨bk,0,none⟩) 2 2,37,[(.slice (some ⟨g2,0,none⟩) (L1.length+1) cap2),sv])] (wb2.setCell ⟨bk,0,none⟩ (.slice (some ⟨g2,0,none⟩) (L1.length+1) cap2))):=F7.out.store (i:=2) (by simp) rfl 0 _;refine qaj.last (by kernel_rfl) rfl (by kernel_rfl) (by kernel_rfl) (fun K hK=>?_);go_simp;refine hK _ _ ?_;clear hK K z0 z1 F7 HOW HNW HSW HRO HS1 HS0 HS6 HRD HSE FD y1;obtain⟨wc2,hwc⟩:∃wc2,wc2=wb2.setCell ⟨bk,0,none⟩ (.slice (some ⟨g2,0,none⟩) (L1.length+1) cap2):=⟨_,rfl⟩;rw[←hwc] at F8 ⊢;clear hwc;have FE:Hid (∃lv',Fr w0 [(lv',22,L++[.slice xa xn xc,.slice oa on oc]),(.slice (some ⟨bk,0,none⟩) 2 2,37,[lv',sv])] wc2):=⟨_,by
  have:=F8.out.tail;rw[HL1.out,List.append_assoc] at this;exact this⟩
 clear F8;go_wp2;refine bodyPost_end (v:=.tuple #[]) (results_none rfl _ _ _) rfl ?_;exact⟨rfl,FE.out⟩
set_option maxRecDepth 100000 in
set_option maxHeartbeats 4000000 in
theorem qny (rb:Nat) (w:World) (h:RdS w rb [97] [97]):
 Calls Tryz.prog 53 #[.pointer (some ⟨rb,0,none⟩)] w fun e w'=>(e=.returned (.tuple #[.agg #[.int .i64 1,.int .i64 97,.bool false,.slice none 0 0],.bool true])∧RdS w' rb [97] [])∧Kept (fun k=>k=rb) w w':=by
 have hX0:=al (Below.refl w.heap.size w) (.cells #[.int .i64 0,.int .i64 0,.bool false,.slice none 0 0] 96);have S:Hid (PcS rb [97] w [97] (w.alloc (.cells #[.int .i64 0,.int .i64 0,.bool false,.slice none 0 0] 96))):=⟨h.below hX0,heap_alloc_new _ _,Kept.of_below hX0,h.lt⟩;have HSK:=qaa (fun(q:By) (W:World) (hq:q.length≤8) (h:RdS W rb [97] [97])=>qn4 rb [97] q [97] W (by decide) hq h);clear h hX0;go_enter Tryz.func53,Tryz.ntmps53;have H1:=qaa (HSK.out [42,42] _ (by decide) S.out.rd);rw[show([42,42]:By).isPrefixOf [97]=false from by decide,if_neg (by decide)] at H1;go_wp2_with (fail);refine H1.out.mono ?_;rintro e wa ⟨rfl,rf,kf⟩;have S':=qaa (S.out.skip rf kf);clear S rf kf H1;have S:=S';clear S';have H1:=qaa (HSK.out [42] _ (by decide) S.out.rd);rw[show([42]:By).isPrefixOf [97]=false from by decide,if_neg (by decide)] at H1;go_wp2_with (fail);refine H1.out.mono ?_;rintro e wb ⟨rfl,rf,kf⟩;have S':=qaa (S.out.skip rf kf);clear S rf kf H1;have S:=S';clear S';have H1:=qaa (HSK.out [63] _ (by decide) S.out.rd);rw[show([63]:By).isPrefixOf [97]=false from by decide,if_neg (by decide)] at H1;go_wp2_with (fail);refine H1.out.mono ?_;rintro e wc ⟨rfl,rf,kf⟩;have S':=qaa (S.out.skip rf kf);clear S rf kf H1;have S:=S';clear S';have H1:=qaa (HSK.out [91] _ (by decide) S.out.rd);rw[show([91]:By).isPrefixOf [97]=false from by decide,if_neg (by decide)] at H1;go_wp2_with (fail);refine H1.out.mono ?_;rintro e wd ⟨rfl,rf,kf⟩;have S':=qaa (S.out.skip rf kf);clear S rf kf H1;have S:=S';clear S';have H1:=qaa (HSK.out [92] _ (by decide) S.out.rd);rw[show([92]:By).isPrefixOf [97]=false from by decide,if_neg (by decide)] at H1;go_wp2_with (fail);refine H1.out.mono ?_;rintro e we ⟨rfl,rf,kf⟩;have S':=qaa (S.out.skip rf kf);clear S rf kf H1;have S:=S';clear S';clear HSK;have H2:=qaa (qn5 rb [97] [97] 32 _ (by decide) S.out.rd);go_wp2_with (fail);refine H2.out.mono ?_;rintro e w5 ⟨h5,k5⟩;obtain⟨rfl,r5⟩:e=.returned (.tuple #[.int .i64 97,.bool true])∧RdS w5 rb [97] []:=h5.ok (c:=97) (t:=[]) rfl;have S':=qaa (S.out.skip r5 k5);clear S h5 r5 k5 H2;have S:=S';clear S';obtain⟨⟨c0,f0,c1,f1,c2,f2,c3,f3⟩,⟨d0,d1,d2,d3⟩,r5,k5,_⟩:=S.out.st (.int .i64 1) (.int .i64 97) (.bool false) (.slice none 0 0);have R5:=qaa r5;have K5:=qaa k5;clear r5 k5;go_wp2;refine bodyPost_ret (by simp[results,Tryz.results53,go_sem,d0,d1,d2,d3];try rfl) rfl ?_;exact⟨⟨rfl,R5.out⟩,K5.out⟩
set_option maxRecDepth 100000 in
set_option maxHeartbeats 4000000 in
theorem qnz (w:World):
 Calls Tryz.prog 22 #[.string ⟨#[97]⟩] w fun e w'=>(∃ao cap D,e=.returned (.tuple #[.slice ao D.length cap,.int .i64 0,.int .i64 0])∧D.map PD.p=[(⟨1,97,false,[]⟩:Pc)]∧qe2 w' ao D)∧Below w.heap.size w w':=by
 obtain⟨i44,hj,hy0,hy1,hy2⟩:=info_parts Tryz.info96;have X0:Below w.heap.size w (w.alloc (.cells #[.string ⟨#[97]⟩,.int .i64 0] 93)):=al (Below.refl _ _) _;have S0:Hid (RdS (w.alloc (.cells #[.string ⟨#[97]⟩,.int .i64 0] 93)) w.heap.size [97] [97]∧Below w.heap.size w (w.alloc (.cells #[.string ⟨#[97]⟩,.int .i64 0] 93))∧w.heap.size+1≤(w.alloc (.cells #[.string ⟨#[97]⟩,.int .i64 0] 93)).heap.size):=⟨⟨[],rfl,heap_alloc_new _ _⟩,X0,by simp⟩;clear X0;go_enter Tryz.func22,Tryz.ntmps22;go_wp2;go_loopw [6] (fun it wr=>(it=.slice none 0 0∧Hid (RdS wr w.heap.size [97] [97]∧Below w.heap.size w wr∧w.heap.size+1≤wr.heap.size))∨∃ao cap,it=.slice ao 1 cap∧Hid (RdS wr w.heap.size [97] []∧Below w.heap.size w wr∧wr.ownsRow (w.heap.size+1) 96 4 (.slice ao 1 cap) 1 [.int .i64 1,.int .i64 97,.bool false,.slice none 0 0])) (fun it _=>1-slen it)
 case atStart=>exact .inl ⟨rfl,S0⟩
 case round=>
  clear S0;rename World=>wr
  rcases hrel with⟨rfl,S⟩|⟨ao,cap,rfl,S⟩
  ·as_aux_lemma=>
   have HP:=qaa (qny w.heap.size wr S.out.1);have c1:wr.cell? ⟨w.heap.size,1,none⟩=some (.int .i64 0):=by
    obtain⟨q,hq,hat⟩:=S.out.1;have:=hat.c1;have hl:q=[]:=by
     have h:=congrArg List.length hq;simp only[List.length_append,List.length_cons,List.length_nil] at h;exact List.length_eq_zero_iff.1 (by omega)
    rw[hl] at this;exact this
   go_wp2_with (fail);refine HP.out.mono ?_;rintro e w4 ⟨⟨rfl,r4⟩,k4⟩;obtain⟨w5,hw5⟩:∃w5,w5=(w4.alloc (.cells #[.int .i64 1,.int .i64 97,.bool false,.slice none 0 0] 96)).alloc (.cells #[.int .i64 1,.int .i64 97,.bool false,.slice none 0 0] 96):=⟨_,rfl⟩;have X5:Below w4.heap.size w4 w5:=by rw[hw5];exact al (al (Below.refl _ _) _) _
   have R5:=qaa (r4.below X5);have Y5:=qaa ((S.out.2.1.trans (k4.below S.out.2.1.size (fun k hk=>by omega))).trans (X5.mono (Nat.le_trans S.out.2.1.size k4.size)));have HB5:Hid (w.heap.size+1≤w5.heap.size):=Nat.le_trans S.out.2.2 (Nat.le_trans k4.size X5.size);have HN:Hid (∀j u,([.int .i64 1,.int .i64 97,.bool false,.slice none 0 0]:List Value)[j]? =some u→w5.cell? ((⟨w4.heap.size+1,0,none⟩:Addr).add j)=some u):=by
    intro j u hu;rw[hw5]
    match j,hu with
    |0,hu=>simp at hu;subst hu;simp[Addr.add]
    |1,hu=>simp at hu;subst hu;simp[Addr.add]
    |2,hu=>simp at hu;subst hu;simp[Addr.add]
    |3,hu=>simp at hu;subst hu;simp[Addr.add]
   have HW5:=qaa hw5;clear c1 HP r4 k4 S X5 hw5;go_wp2_with (at_builtin;rw[←HW5.out];refine qac rfl (.tmp 29) (.tmp 31) 39 rfl (w.heap.size+1) 96 i44 (.agg #[.int .i64 0,.int .i64 0,.bool false,.slice none 0 0]) 4 48 Tryz.underlying39 hj hy0 hy1 hy2 rfl (by decide) (.slice none 0 0) 0 [] rfl (World.ownsRow_nil _ _ _ _) ⟨w4.heap.size+1,0,none⟩ 1 1 [.int .i64 1,.int .i64 97,.bool false,.slice none 0 0] rfl rfl HN.out (by simp[Value.oneCell']) (by decide) (by unfold maxLen;decide) (by decide) HB5.out ?_;intro v6 w6 h1 h2;rw[List.nil_append,Nat.zero_add] at h1;obtain⟨a6,c6,rfl,_⟩:=qag h1;have S6:Hid (RdS w6 w.heap.size [97] []∧Below w.heap.size w w6∧w6.ownsRow (w.heap.size+1) 96 4 (.slice a6 1 c6) 1 [.int .i64 1,.int .i64 97,.bool false,.slice none 0 0]):=h2.elim (fun⟨_,e,_⟩=>by cases e) (fun⟨g,_⟩=>⟨R5.out.below (qad g),Y5.out.trans ((qad g).mono Y5.out.size),h1⟩);clear h1 h2);clear HN HB5 R5 Y5 HW5;go_roundw
   case rel=>exact .inr ⟨_,_,rfl,S6⟩
   case measure=>simp only[slen];omega
  ·as_aux_lemma=>
   have c1:wr.cell? ⟨w.heap.size,1,none⟩=some (.int .i64 1):=by
    obtain⟨q,hq,hat⟩:=S.out.1;have:=hat.c1;rw[List.append_nil] at hq;rw[←hq] at this;exact this
   have HO:Hid (qph wr w.heap.size (.slice ao 1 cap) [⟨⟨1,97,false,[]⟩,none,0⟩]):=⟨qbx S.out.2.2 (by omega),fun d hd=>by rw[List.mem_singleton.1 hd];exact qn0.nil _ _,List.pairwise_singleton _ _⟩;obtain⟨ao',cap',e,_,hat⟩:=HO.out.at;simp only[Value.slice.injEq] at e;obtain⟨rfl,-,rfl⟩:=e;have HAT:=qaa hat;have X:=qaa S.out.2.1;clear S HO hat;go_wp2;go_ret3;exact⟨⟨_,_,[⟨⟨1,97,false,[]⟩,none,0⟩],rfl,rfl,HAT.out⟩,X.out⟩
theorem qo5 (w:World):Calls Tryz.prog 22 #[.string ⟨#[97]⟩] w fun e w'=>(∃ao cap D,e=.returned (.tuple #[.slice ao D.length cap,.int .i64 0,.int .i64 0])∧D.map PD.p=[pA]∧qe2 w' ao D)∧Below w.heap.size w w':=by
 exact qnz w
set_option maxRecDepth 100000 in
set_option maxHeartbeats 4000000 in
theorem qkn (w:World):Calls Tryz.prog 10 #[] w fun e w'=>e=.returned (.bool true)∧Below w.heap.size w w':=by
 have HP:=qaa (qo5 w);have HI:Hid ((Tryz.prog.info? 24).map (·.size)=some 3):=by unfold Hid;kernel_rfl
 go_enter Tryz.func10,Tryz.ntmps10;go_upto_region 2 with(go_at_call 22;refine HP.out.mono ?_;rintro e w1 ⟨⟨ao,cap,D,rfl,hD,hat⟩,x1⟩;have HD:=qaa hD;have HAT:=qaa hat;have X1:=qaa x1;clear hD hat x1)
 have HOF:Hid (Calls Tryz.prog 20 #[.slice ao D.length cap] w1 fun e w'=>(∃bs xa oa xc oc NX OU,e=.returned (.tuple #[.agg #[.string ⟨bs.toArray⟩,.slice xa NX.length xc,.slice oa OU.length oc],.int .i64 0])∧OfR w' w1.heap.size [pA] bs xa oa xc oc NX OU)∧Below w1.heap.size w1 w'):=by
  refine(qop ao cap D w1 (fun d hd=>?_) HAT.out).mono ?_
  ·have:d.p∈D.map PD.p:=List.mem_map_of_mem hd
   rw[HD.out] at this;rw[List.mem_singleton.1 this];simp[pA]
  ·rintro e w' ⟨h,x⟩
   rw[HD.out] at h;refine⟨?_,x⟩;rcases h.yes rtA with⟨hm,_⟩|h
   ·exact(qf0 fewA hm).elim
   ·exact h
 go_upto_region 3 with(go_at_call 20;refine HOF.out.mono ?_;rintro e w2 ⟨⟨bs,xa,oa,xc,oc,NX,OU,rfl,hof⟩,x2⟩;have HF:=qaa hof;have X2:=qaa (bt X1.out x2 (Nat.le_refl _));clear hof x2)
 obtain⟨hO,hX⟩:=qpn HF.out.at'.may HF.out.at'.rt HF.out.lab;have X3:Below w2.heap.size w2 (w2.alloc (.cells #[.string ⟨bs.toArray⟩,.slice xa NX.length xc,.slice oa OU.length oc] 24)):=al (Below.refl _ _) _;have B3:=heap_alloc_new w2 (.cells #[.string ⟨bs.toArray⟩,.slice xa NX.length xc,.slice oa OU.length oc] 24);obtain⟨w3,hw3⟩:∃w3,w3=w2.alloc (.cells #[.string ⟨bs.toArray⟩,.slice xa NX.length xc,.slice oa OU.length oc] 24):=⟨_,rfl⟩;obtain⟨pb,hpb⟩:∃pb,pb=w2.heap.size:=⟨_,rfl⟩;rw[←hw3] at X3 B3 ⊢;rw[←hpb] at B3 ⊢;have HX3:=qaa (bt X2.out X3 (Nat.le_refl _));have HC:Hid (∀V,Below w3.heap.size w3 V→V.cell? ⟨pb,0,none⟩=some (.string ⟨bs.toArray⟩)∧V.cell? ⟨pb,1,none⟩=some (.slice xa 6 xc)∧V.cell? ⟨pb,2,none⟩=some (.slice oa 3 oc)):=fun V x=>by
  have Bv:=(x.block _ (lt_of_block B3)).trans B3;rw[hX,hO] at Bv;exact⟨by rw[cell_of_row _ _ _ _ _ _ Bv];rfl,by rw[cell_of_row _ _ _ _ _ _ Bv];rfl,by rw[cell_of_row _ _ _ _ _ _ Bv];rfl⟩
 have l1:(dfA bs NX OU).lab 0 (ntL [97])=1:=by rw[HF.out.lab];exact(by kernel_rfl:(if mtF [pA] [97] ([pA]:List Pc).length then(1:Int) else 0)=1)
 have l2:(dfA bs NX OU).lab 0 (ntL [97,98])=0:=by rw[HF.out.lab];exact(by kernel_rfl:(if mtF [pA] [97,98] ([pA]:List Pc).length then(1:Int) else 0)=0)
 have HR1:Hid (∀V,Below w3.heap.size w3 V→Calls Tryz.prog 27 #[.agg #[.string ⟨bs.toArray⟩,.slice xa 6 xc,.slice oa 3 oc],.string ⟨#[97]⟩] V fun e w'=>e=.returned (.tuple #[.int .i64 1,.int .i64 0])∧Below V.heap.size V w'):=fun V x=>by
  have:=(HF.out.at'.below (bt X3 x (Nat.le_refl _))).run xc oc [97] (by simp);rw[l1,hO,hX] at this;exact this
 have HR2:Hid (∀V,Below w3.heap.size w3 V→Calls Tryz.prog 27 #[.agg #[.string ⟨bs.toArray⟩,.slice xa 6 xc,.slice oa 3 oc],.string ⟨#[97,98]⟩] V fun e w'=>e=.returned (.tuple #[.int .i64 0,.int .i64 0])∧Below V.heap.size V w'):=fun V x=>by
  have:=(HF.out.at'.below (bt X3 x (Nat.le_refl _))).run xc oc [97,98] (by simp);rw[l2,hO,hX] at this;exact this
 have HSH:Hid (∀V,Below w3.heap.size w3 V→Calls Tryz.prog 29 #[.agg #[.string ⟨bs.toArray⟩,.slice xa 6 xc,.slice oa 3 oc],.int .i64 1] V fun e w'=>e=.returned (.tuple #[.string ⟨#[97]⟩,.bool true,.int .i64 0])∧Below V.heap.size V w'):=fun V x=>by
  have:=(HF.out.at'.below (bt X3 x (Nat.le_refl _))).short xc oc 1;rw[hO,hX] at this;refine this.mono ?_;rintro e w' ⟨⟨s,is,rfl,hS⟩,x'⟩;refine⟨?_,x'⟩;rcases hS with⟨rfl,st,t,_,k2,_,k4,rfl⟩|⟨_,_,k⟩
  ·rw[qor HF.out.lab k2 k4]
  ·refine absurd l1 (k _ (HF.out.at'.rt.toOk.run HF.out.at'.rt.n0 (qc2 _)))
 have HRR:Hid (∀V,Below w3.heap.size w3 V→Calls Tryz.prog 16 #[.agg #[.string ⟨bs.toArray⟩,.slice xa 6 xc,.slice oa 3 oc]] V fun e w'=>e=.returned (.bool true)∧Below V.heap.size V w'):=fun V x=>by
  have:=(HF.out.at'.below (bt X3 x (Nat.le_refl _))).right xc oc;rw[hO,hX] at this;exact this
 rw[hX,hO];obtain⟨c0,c1,c2⟩:=HC.out w3 (Below.refl _ _);clear hw3 hpb X3 B3 HF hO hX l1 l2 HOF HP HAT HD;go_upto_region 4 with(go_at_call 27;refine(HR1.out _ (Below.refl _ _)).mono ?_;rintro e w4 ⟨rfl,x4⟩;have X4:=qaa x4;clear x4)
 obtain⟨c0,c1,c2⟩:=HC.out w4 X4.out;clear HR1;go_upto_region 5 with(go_at_call 27;refine(HR2.out _ X4.out).mono ?_;rintro e w5 ⟨rfl,x5⟩;have X5:=qaa (bt X4.out x5 (Nat.le_refl _));clear x5)
 obtain⟨c0,c1,c2⟩:=HC.out w5 X5.out;go_upto_region 6 with(go_at_call 29;refine(HSH.out _ X5.out).mono ?_;rintro e w6 ⟨rfl,x6⟩;have X6:=qaa (bt X5.out x6 (Nat.le_refl _));clear x6)
 obtain⟨c0,c1,c2⟩:=HC.out w6 X6.out;go_wp2_with (go_at_call 16;refine(HRR.out _ X6.out).mono ?_;rintro e w7 ⟨rfl,x7⟩;have X7:=qaa (bt X6.out x7 (Nat.le_refl _));clear x7);go_ret;exact⟨rfl,bt HX3.out X7.out (Nat.le_refl _)⟩
end Go.Proofs.YtdgoilkgplnhfaaGreat

