/-
  The document's New by its contract. Condition: lists no longer than a process can hold.
-/
import Derived.Deep.CutBlock
import Derived.Test.YtnddhkhmbjeefaaC34
import Derived.Test.YtnddhkhmbjeefaaC17
import Derived.Test.YtnddhkhmbjeefaaC35
import Derived.Test.YtnddhkhmbjeefaaC32
import Derived.WalkSmall
import Derived.Test.YtnddhkhmbjeefaaC25
import Derived.Test.YtnddhkhmbjeefaaC02
namespace Go.Proofs.Ytnddhkhmbjeefaa
open Go.RowKit Go.Lib Go.Maps
theorem Try.info22:(Try.prog.info? 22).map (fun i=>(i.zero,i.size,i.bytes))=some (some (.slice none 0 0),1,24):=by kernel_rfl
structure NwS (w0:World) (x:Nat) (M:Int) (A:List Int) (k:Nat) (sv lv:Value) (w:World):Prop where
 blk:w.heap[x]? =some (.cells #[sv,.int .i64 M,.slice none 0 0,lv] 65 (0,0))
 ge:w0.heap.size≤x
 s:w.ownsRow w0.heap.size 3 1 sv k (zC (A.take k))
 l:w.ownsRow w0.heap.size 22 1 lv k (List.replicate k (.slice none 0 0))
 bel:Below w0.heap.size w0 w
section
variable {w0 w w':World} {x k:Nat} {M:Int} {A:List Int} {sv lv:Value}
theorem NwS.below (h:NwS w0 x M A k sv lv w) (y:Below w.heap.size w w'):NwS w0 x M A k sv lv w':=
 ⟨(y.block x (lt_of_block h.blk)).trans h.blk,h.ge,own_below h.s y,own_below h.l y,bt h.bel y (Nat.le_refl _)⟩
theorem NwS.addS (h:NwS w0 x M A k sv lv w) {sv':Value} {xs:List Value} {m:Nat} (k1:Kept (fun j=>sv.ownBlock=some j) w w') (o1:w'.ownsRow w0.heap.size 3 1 sv' m xs) (hn:∀j,sv'.ownBlock=some j→sv.ownBlock=some j∨w.heap.size≤j):
 (w'.setCell ⟨x,0,none⟩ sv').heap[x]? =some (.cells #[sv',.int .i64 M,.slice none 0 0,lv] 65 (0,0))∧(w'.setCell ⟨x,0,none⟩ sv').ownsRow w0.heap.size 3 1 sv' m xs∧(w'.setCell ⟨x,0,none⟩ sv').ownsRow w0.heap.size 22 1 lv k (List.replicate k (.slice none 0 0))∧Below w0.heap.size w0 (w'.setCell ⟨x,0,none⟩ sv')∧w'.heap[x]? =some (.cells #[sv,.int .i64 M,.slice none 0 0,lv] 65 (0,0)):=by
 have hsx:¬sv.ownBlock=some x:=fun hF=>by
  obtain⟨cs,h5⟩:=own_ty h.s _ hF
  exact blocks_ne h.blk h5 (by decide) rfl
 have hb1:=(k1.block x (lt_of_block h.blk) hsx).trans h.blk
 have k3:Kept (fun k=>k=x) w' (w'.setCell ⟨x,0,none⟩ sv'):=Kept.setCell (F:=fun k=>k=x) (p:=⟨x,0,none⟩) (Kept.refl _ _) rfl _
 refine⟨?_,own_kept o1 k3 (fun j hj e=>?_),own_kept (own_kept h.l k1 (fun j h1 h2=>own_ne h.l h.s (by decide) j h1 h2)) k3 (fun j hj e=>?_),?_,hb1⟩
 ·have:=block_setCell hb1 0 sv'
  simpa using this
 ·subst e
  rcases hn _ hj with h5|h5
  ·exact hsx h5
  ·have:=lt_of_block h.blk;omega
 ·subst e
  obtain⟨cs,h5⟩:=own_ty h.l _ hj
  exact blocks_ne h.blk h5 (by decide) rfl
 ·exact(h.bel.trans (k1.below h.bel.size (fun j hj=>(World.ownsRow.lt h.s j hj).1))).trans (k3.below (Nat.le_trans h.bel.size k1.size) (fun j hj=>by rw[hj];exact h.ge))
end
def NwL (A:List Int) (M:Int) (w:World) (e:Ending) (w':World) (L:Nat→(Nat→Prop)→World→Prop):Prop:=
 ((SzOk A∧0≤M∧M≤8192∧∃x P,e=.returned (.tuple #[.pointer (some ⟨x,0,none⟩),.int .i64 0])∧L x P w'∧∀k,P k→w.heap.size≤k)∨(¬(SzOk A∧0≤M∧M≤8192)∧e=.returned (.tuple #[.pointer none,.int .i64 1])))∧Below w.heap.size w w'
set_option maxRecDepth 100000 in
set_option maxHeartbeats 4000000 in
theorem newD_any (ao:Option Addr) (cap:Nat) (A:List Int) (M:Int) (w:World) (hl:A.length≤140737488351232) (hz:ZAt w ao A):
 Calls Try.prog 25 #[.slice ao A.length cap,.int .i64 M] w fun e w'=>NwL A M w e w' (fun x P V=>RA V x A M [] P):=by
 have HZ:=hide hz
 clear hz
 by_cases a0:A.length<1
 ·have HD:Hid (¬(SzOk A∧0≤M∧M≤8192)):=fun h=>by have:=h.1.ge;omega
  have a0':(A.length:Int)<1:=by omega
  go_enter Try.func25,Try.ntmps25
  go_wp2
  go_ret2
  exact⟨.inr ⟨HD.out,rfl⟩,Below.refl _ _⟩
 have a0':¬(A.length:Int)<1:=by omega
 by_cases a1:12<A.length
 ·have HD:Hid (¬(SzOk A∧0≤M∧M≤8192)):=fun h=>by have:=h.1.le;omega
  have a1':(12:Int)<(A.length:Int):=by omega
  go_enter Try.func25,Try.ntmps25
  go_wp2
  go_ret2
  exact⟨.inr ⟨HD.out,rfl⟩,Below.refl _ _⟩
 have a1':¬(12:Int)<(A.length:Int):=by omega
 by_cases a2:M<0
 ·have HD:Hid (¬(SzOk A∧0≤M∧M≤8192)):=fun h=>by have:=h.2.1;omega
  go_enter Try.func25,Try.ntmps25
  go_wp2
  go_ret2
  exact⟨.inr ⟨HD.out,rfl⟩,Below.refl _ _⟩
 by_cases a3:8192<M
 ·have HD:Hid (¬(SzOk A∧0≤M∧M≤8192)):=fun h=>by have:=h.2.2;omega
  go_enter Try.func25,Try.ntmps25
  go_wp2
  go_ret2
  exact⟨.inr ⟨HD.out,rfl⟩,Below.refl _ _⟩
 obtain⟨i3,hi3,hz30,hz31,hz32⟩:=info_parts Try.info3
 obtain⟨i22,hi22,hy0,hy1,hy2⟩:=info_parts Try.info22
 have S1:Hid (NwS w w.heap.size M A 0 (.slice none 0 0) (.slice none 0 0) (w.alloc (.cells #[.slice none 0 0,.int .i64 M,.slice none 0 0,.slice none 0 0] 65))):=⟨heap_alloc_new _ _,Nat.le_refl _,World.ownsRow_nil _ _ _ _,World.ownsRow_nil _ _ _ _,al (Below.refl _ _) _⟩
 go_enter Try.func25,Try.ntmps25
 go_upto_region 4 with fail
 obtain⟨x,hx⟩:∃x,x=w.heap.size:=⟨_,rfl⟩
 rw[←hx]
 have HX:=hide hx
 rw[←HX.out] at S1
 have HXL:Hid (∀j:Nat,w.heap.size≤j↔x≤j):=by unfold Hid;rw[hx];exact fun j=>Iff.rfl
 clear hx
 generalize w.alloc (.cells #[.slice none 0 0,.int .i64 M,.slice none 0 0,.slice none 0 0] 65)=w1 at *
 go_wp2
 go_loopw [7] (fun y wr=>∃k:Nat,k≤A.length∧y=.int .i64 k∧∃sv lv,Hid (NwS w x M A k sv lv wr)∧Hid (∀i,i<k→1≤A.getD i 0∧A.getD i 0≤256)) (fun y _=>A.length-(RowKit.intOf y).toNat)
 case atStart=>exact⟨0,Nat.zero_le _,rfl,_,_,S1,fun i h=>by omega⟩
 case round=>
  obtain⟨k,hk,rfl,sv,lv,S2,HE⟩:=hrel
  clear S1
  by_cases hlt:k<A.length
  ·have hlt':(k:Int)<A.length:=by omega
   obtain⟨b1,o1,rfl,hb1,g1⟩:=HZ.out.get hlt
   have q1:=(S2.out.bel.cell (p:=⟨b1,o1+k,none⟩) hb1).trans g1
   have HB1:Hid (∀V,Below w.heap.size w V→V.cell? ⟨b1,o1+k,none⟩=some (.int .i64 (A.getD k 0))):=fun V y=>(y.cell (p:=⟨b1,o1+k,none⟩) hb1).trans g1
   have HTS:=hide (take_snoc hlt)
   clear g1
   by_cases he:1≤A.getD k 0∧A.getD k 0≤256
   ·have HE2:Hid (∀i,i<k+1→1≤A.getD i 0∧A.getD i 0≤256):=fun i hi=>by
     rcases Nat.lt_or_ge i k with h|h
     ·exact HE.out i h
     ·obtain rfl:i=k:=by omega
      exact he
    clear HE
    generalize A.getD k 0=v at *
    have e1:¬v<1:=by omega
    have e2:¬256<v:=by omega
    clear he
    obtain⟨sa,scp,hsv,_⟩:=own_shape S2.out.s
    subst hsv
    obtain⟨la,lcp,hlv,_⟩:=own_shape S2.out.l
    subst hlv
    go_upto_region 9 with fail
    have yd:Below wr.heap.size wr wr.drew:=(Below.refl _ _).drew
    have S3:=hide (S2.out.below yd)
    have HS0:Hid (wr.drew.cell? ⟨x,0,none⟩=some (.slice sa k scp)∧wr.drew.cell? ⟨b1,o1+k,none⟩=some (.int .i64 v)):=⟨by rw[cell_of_row _ x 0 _ _ _ S3.out.blk];rfl,HB1.out _ S3.out.bel⟩
    clear S2 yd q1
    refine wp_unt (S:=fun V=>V.cell? ⟨x,0,none⟩=some (.slice sa k scp)∧V.cell? ⟨b1,o1+k,none⟩=some (.int .i64 v)) 13 (by kernel_rfl) ?_
    generalize wr.drew=wd at *
    refine UntH.tk 0 rfl 45 HS0.out (fun w' ⟨q0,q1⟩=>by go_simp;first|done|rfl) ?_
    refine UntH.tk 1 rfl 46 HS0.out (fun w' ⟨q0,q1⟩=>by go_simp;first|done|rfl) ?_
    refine UntH.tk 2 rfl 47 HS0.out (fun w' ⟨q0,q1⟩=>by go_simp;first|done|rfl) ?_
    refine UntH.tk 3 rfl 48 HS0.out (fun w' ⟨q0,q1⟩=>by go_simp;first|done|rfl) ?_
    refine UntH.tk 4 rfl 49 HS0.out (fun w' ⟨q0,q1⟩=>by go_simp;first|done|rfl) ?_
    refine UntH.tk 5 rfl 50 HS0.out (fun w' ⟨q0,q1⟩=>by go_simp;first|done|rfl) ?_
    refine UntH.tk 6 rfl 51 HS0.out (fun w' ⟨q0,q1⟩=>by go_simp;first|done|rfl) ?_
    refine UntH.tk 7 rfl 52 HS0.out (fun w' ⟨q0,q1⟩=>by go_simp;first|done|rfl) ?_
    refine UntH.tk 8 rfl 53 HS0.out (fun w' ⟨q0,q1⟩=>by go_simp;first|done|rfl) ?_
    try simp only[Act.put,List.setIfInBounds_toArray,List.set_cons_zero,List.set_cons_succ]
    have y4:Below wd.heap.size wd (wd.alloc (.cells #[.int .i64 v] 3)):=al (Below.refl _ _) _
    have S4:=hide (S3.out.below y4)
    have HNW:=hide (one_new wd (.int .i64 v) 3)
    have HS4:Hid ((wd.alloc (.cells #[.int .i64 v] 3)).cell? ⟨x,0,none⟩=some (.slice sa k scp)∧(wd.alloc (.cells #[.int .i64 v] 3)).cell? ⟨b1,o1+k,none⟩=some (.int .i64 v)):=⟨by rw[cell_of_row _ x 0 _ _ _ S4.out.blk];rfl,HB1.out _ S4.out.bel⟩
    refine UntH.step (i:=9) (by kernel_rfl) rfl (fun K hK=>?_)
    go_simp
    refine hK _ _ HS4.out ?_
    clear hK K y4 S3
    generalize wd.alloc (.cells #[.int .i64 v] 3)=w4 at *
    refine UntH.step (i:=10) (by kernel_rfl) rfl (fun K hK=>?_)
    refine step_append_lies _ (by rfl) (.tmp 49) (.tmp 54) 22 (by rfl) w.heap.size 3 i3 (.int .i64 0) 1 8 Try.underlying22 hi3 hz30 hz31 hz32 rfl (by decide) _ k (zC (A.take k)) (by rfl) S4.out.s ⟨wd.heap.size,0,none⟩ 1 1 [.int .i64 v] (by rfl) (by rfl) HNW.out (by simp[Value.oneCell']) (by decide) (by unfold maxLen;omega) (by omega) S4.out.bel.size _ rfl ?_
    intro g5 cap5 w5 h1 h2 h3 h4
    obtain⟨t1,t2,t3,t4,t5⟩:=S4.out.addS (kept_of_grown h2) h1 (fun j hj=>by
     have e:g5=j:=Option.some.inj hj
     rw[←e]
     exact h3.imp id (fun e=>by omega))
    rw[←zC_snoc,←HTS.out] at t2
    have S5:Hid (∀lv' w',w'.heap[x]? =some (.cells #[.slice (some ⟨g5,0,none⟩) (k+1) cap5,.int .i64 M,.slice none 0 0,lv'] 65 (0,0))→w'.ownsRow w.heap.size 3 1 (.slice (some ⟨g5,0,none⟩) (k+1) cap5) (k+1) (zC (A.take (k+1)))→w'.ownsRow w.heap.size 22 1 lv' (k+1) (List.replicate (k+1) (.slice none 0 0))→Below w.heap.size w w'→NwS w x M A (k+1) (.slice (some ⟨g5,0,none⟩) (k+1) cap5) lv' w'):=fun lv' w' a b c d=>⟨a,S4.out.ge,b,c,d⟩
    have T1:=hide t1
    have T2:=hide t2
    have T3:=hide t3
    have T4:=hide t4
    have HS5:Hid (w5.cell? ⟨x,0,none⟩=some (.slice sa k scp)∧w5.cell? ⟨b1,o1+k,none⟩=some (.int .i64 v)):=⟨by rw[cell_of_row _ x 0 _ _ _ t5];rfl,HB1.out _ (S4.out.bel.trans ((kept_of_grown h2).below S4.out.bel.size (fun j hj=>(World.ownsRow.lt S4.out.s j hj).1)))⟩
    have f5:=frozen_of_row w5 x 0 _ _ t5
    refine hK _ _ HS5.out ?_
    clear hK K h1 h2 h3 h4 t1 t2 t3 t4 t5 HS4 HS0
    refine UntH.tk 11 rfl 56 HS5.out (fun w' ⟨q0,q1⟩=>by go_simp;first|done|rfl) ?_
    refine UntH.tk 12 rfl 57 HS5.out (fun w' ⟨q0,q1⟩=>by go_simp;first|done|rfl) ?_
    have q12:=HS5.out.1
    refine UntH.last (by kernel_rfl) rfl (by kernel_rfl) (by kernel_rfl) (fun K hK=>?_)
    go_simp
    refine hK _ _ ?_
    clear hK K q12 f5 HS5 HNW S4
    generalize w5.setCell ⟨x,0,none⟩ (.slice (some ⟨g5,0,none⟩) (k+1) cap5)=w6 at *
    have c3:w6.cell? ⟨x,3,none⟩=some (.slice la k lcp):=by rw[cell_of_row _ x 3 _ _ _ T1.out];rfl
    have y7:Below w6.heap.size w6 (w6.alloc (.cells #[.slice none 0 0] 22)):=al (Below.refl _ _) _
    have O7:=hide (own_below T3.out y7)
    have B7:=hide ((y7.block x (lt_of_block T1.out)).trans T1.out)
    have U7:=hide (own_below T2.out y7)
    have D7:=hide (bt T4.out y7 (Nat.le_refl _))
    go_wp2_with (at_builtin;refine wpList_append_view rfl (.tmp 62) (.tmp 63) 47 rfl w.heap.size 22 i22 (.slice none 0 0) 1 24 Try.underlying47 hi22 hy0 hy1 hy2 rfl (by decide) _ k (List.replicate k (.slice none 0 0)) rfl O7.out ⟨w6.heap.size,0,none⟩ 1 1 [.slice none 0 0] rfl rfl (one_new w6 _ _) (by simp[Value.oneCell']) (by decide) (by unfold maxLen;omega) (by omega) D7.out.size ?_;intro v8 w8 h1 h2;obtain⟨a8,c8,hv8,_⟩:=own_shape h1;subst hv8;have b8:=((appK h2).block x (lt_of_block B7.out) (fun hF=>by
     obtain⟨cs,h5⟩:=own_ty O7.out _ hF
     exact blocks_ne B7.out h5 (by decide) rfl)).trans B7.out;have d8:w8.cell? ⟨x,3,none⟩=some (.slice la k lcp):=(by rw[cell_of_row _ x 3 _ _ _ b8];rfl);have f8:=frozen_of_row w8 x 3 _ _ b8;have B8:=hide b8;have O8:=hide h1;have A8:=hide h2;clear h1 h2 b8)
    have hk9:Hid (NwS w x M A (k+1) (.slice (some ⟨g5,0,none⟩) (k+1) cap5) (.slice a8 (k+1) c8) (w8.setCell ⟨x,3,none⟩ (.slice a8 (k+1) c8))):=by
     have k3:Kept (fun k=>k=x) w8 (w8.setCell ⟨x,3,none⟩ (.slice a8 (k+1) c8)):=Kept.setCell (F:=fun k=>k=x) (p:=⟨x,3,none⟩) (Kept.refl _ _) rfl _
     have hne:∀ {b:Nat} {cs:Array Value} {t:TypeId} {f:Nat×Nat},w8.heap[b]? =some (.cells cs t f)→t≠65→b≠x:=fun hb ht=>blocks_ne hb B8.out ht
     refine S5.out _ _ ?_ (own_kept (own_kept U7.out (appK A8.out) (fun j h1 h2=>own_ne U7.out O7.out (by decide) j h1 h2)) k3 (fun j hj=>?_)) (own_kept (by rw[List.replicate_succ'];exact O8.out) k3 (fun j hj=>?_)) ?_
     ·have:=block_setCell B8.out 3 (.slice a8 (k+1) c8)
      simpa using this
     ·have o8:=own_kept U7.out (appK A8.out) (fun j h1 h2=>own_ne U7.out O7.out (by decide) j h1 h2)
      obtain⟨cs,h5⟩:=own_ty o8 j hj
      exact hne h5 (by decide)
     ·obtain⟨cs,h5⟩:=own_ty O8.out j hj
      exact hne h5 (by decide)
     ·exact((app_below D7.out O7.out A8.out (Nat.le_refl _))).trans (k3.below (Nat.le_trans D7.out.size (appK A8.out).size) (fun j hj=>by rw[hj];exact(HXL.out x).2 (Nat.le_refl _)))
    refine⟨⟨k+1,by omega,by go_num,_,_,hk9,HE2⟩,by simp[RowKit.intOf];omega⟩
   ·have HD:Hid (¬(SzOk A∧0≤M∧M≤8192)):=fun h=>he (h.1.each _ (getD_mem hlt))
    clear HE
    generalize A.getD k 0=v at *
    by_cases e1:v<1
    ·clear he
     go_wp2
     go_ret2
     exact⟨.inr ⟨HD.out,rfl⟩,S2.out.bel⟩
    ·have e2:256<v:=by omega
     clear he
     go_wp2
     go_ret2
     exact⟨.inr ⟨HD.out,rfl⟩,S2.out.bel⟩
  ·have hlt':¬(k:Int)<A.length:=by omega
   obtain rfl:k=A.length:=by omega
   have HSZ:Hid (SzOk A):=⟨by omega,by omega,all_of_getD (fun i hi=>HE.out i hi)⟩
   obtain⟨sa,scp,hsv,hsp⟩:=own_shape S2.out.s
   subst hsv
   obtain⟨la,lcp,hlv,hlp⟩:=own_shape S2.out.l
   subst hlv
   have HM0:Hid (0≤M∧M≤8192):=⟨by omega,by omega⟩
   go_wp2
   go_ret2
   have h1:=S2.out.s
   rw[List.take_length] at h1
   obtain⟨g,c,e,hg,hzb⟩:=own_blk h1 (by omega)
   injection e with e _ e2
   subst e e2
   refine⟨.inl ⟨HSZ.out,HM0.out.1,HM0.out.2,x,fun k=>k=x∨k=g∨(Value.slice la A.length lcp).ownBlock=some k,rfl,⟨[],g,scp,.slice none 0 0,.slice la A.length lcp,List.replicate A.length (.slice none 0 0),⟨S2.out.blk,hzb,.inl (World.ownsRow_nil _ _ _ _),fun y hy=>by simp at hy,own_mono S2.out.l (Nat.zero_le _),fun i hi=>?_,fun i j hi hj _ k hk=>?_,fun i hi k hk=>?_,.inl rfl,.inr (.inl rfl),fun k hk=>by simp[Value.ownBlock] at hk,fun k hk=>.inr (.inr hk),fun i hi k hk=>?_,fun y hy=>by simp at hy,fun k hk=>?_,Ok.nil HSZ.out HM0.out.1 HM0.out.2,HM0.out.2⟩,rfl⟩,fun k hk=>?_⟩,S2.out.bel⟩
   ·simp only[List.getD_eq_getElem?_getD,List.getElem?_replicate,hi,if_true]
    exact .inl (World.ownsRow_nil _ _ _ _)
   ·simp[List.getD_eq_getElem?_getD,hi,Value.ownBlock] at hk
   ·simp[List.getD_eq_getElem?_getD,hi,Value.ownBlock] at hk
   ·simp[List.getD_eq_getElem?_getD,hi,Value.ownBlock] at hk
   ·rcases hk with rfl|rfl|hk
    ·exact lt_of_block S2.out.blk
    ·exact hzb.lt
    ·exact(World.ownsRow.lt S2.out.l k hk).2
   ·rcases hk with rfl|rfl|hk
    ·exact S2.out.ge
    ·exact hg
    ·exact(World.ownsRow.lt S2.out.l k hk).1
section
variable {w w':World} {a x:Nat} {S:List Int} {M:Int} {N:List Nd} {m:Nat} {P Q:Nat→Prop}
theorem RA.make (h:RA w x S M N Q) (lv:Int) (ao:Option Addr) (cap:Nat) (A:List Int) (hl:A.length≤140737488351232) (hz:ZAt w ao A):
 Calls Try.prog 28 #[.pointer (some ⟨x,0,none⟩),.int .i64 lv,.slice ao A.length cap] w fun e w'=>MkL S M N lv A w e w' (fun N' P' V=>RA V x S M N' P') Q:=by
 obtain⟨R,sb,sc,nv,lvv,LV,h1,rfl⟩:=h
 exact makeD_any lv ao cap A hl hz h1
theorem RA.node (h:RA w x S M N Q) (f:Int):Calls Try.prog 69 #[.pointer (some ⟨x,0,none⟩),.int .i64 f] w fun e w'=>NdL N f w e w':=by
 obtain⟨R,sb,sc,nv,lvv,LV,h1,rfl⟩:=h
 exact nodeD_any f h1
theorem RA.level (h:RA w x S M N Q) (f:Int):Calls Try.prog 27 #[.pointer (some ⟨x,0,none⟩),.int .i64 f] w fun e w'=>e=.returned (.int .i64 (lvl S N f))∧w'=w:=by
 obtain⟨R,sb,sc,nv,lvv,LV,h1,rfl⟩:=h
 exact levelD_any f h1
theorem RA.has (h:RA w x S M N Q) (f:Int):Calls Try.prog 51 #[.pointer (some ⟨x,0,none⟩),.int .i64 f] w fun e w'=>e=.returned (.bool (hasN N.length f))∧w'=w:=by
 obtain⟨R,sb,sc,nv,lvv,LV,h1,rfl⟩:=h
 rw[List.length_map]
 exact hasD_any f h1
theorem RA.len (h:RA w x S M N Q):Calls Try.prog 26 #[.pointer (some ⟨x,0,none⟩)] w fun e w'=>e=.returned (.int .i64 (N.length:Int))∧w'=w:=by
 obtain⟨R,sb,sc,nv,lvv,LV,h1,rfl⟩:=h
 rw[List.length_map]
 exact lenD_any h1
theorem RA.fields (h:RA w x S M N Q):∃sb sc,w.cell? ⟨x,0,none⟩=some (.slice (some ⟨sb,0,none⟩) S.length sc)∧w.cell? ⟨x,1,none⟩=some (.int .i64 M)∧ZBk w sb S∧x<w.heap.size:=by
 obtain⟨R,sb,sc,nv,lvv,LV,h1,rfl⟩:=h
 exact⟨sb,sc,h1.cells.1,h1.cells.2.1,h1.sz,lt_of_block h1.blk⟩
end
structure MdR (w0 w:World) (a x:Nat) (S:List Int) (N:List Nd) (m:Nat) (P Q:Nat→Prop) (v0 v1:Value) (L1:List Int) (v2:Value) (L2:List Int):Prop where
 ca:CA w a S 8192 N m P
 ra:RA w x S 8192 N Q
 pq:∀j,P j→¬Q j
 lp:∀j,P j→w0.heap.size≤j
 lq:∀j,Q j→w0.heap.size≤j
 bel:Below w0.heap.size w0 w
 r0:w.ownsRow w0.heap.size 3 1 v0 S.length (zC S)
 r1:w.ownsRow w0.heap.size 3 1 v1 L1.length (zC L1)
 r2:w.ownsRow w0.heap.size 3 1 v2 L2.length (zC L2)
 n0:∀j,v0.ownBlock=some j→¬P j∧¬Q j
 n1:∀j,v1.ownBlock=some j→¬P j∧¬Q j
 n2:∀j,v2.ownBlock=some j→¬P j∧¬Q j
 n02:∀j,v0.ownBlock=some j→v2.ownBlock≠some j
 n12:∀j,v1.ownBlock=some j→v2.ownBlock≠some j
section
variable {w0 w w':World} {a x:Nat} {S:List Int} {N N':List Nd} {m:Nat} {P Q P' Q':Nat→Prop} {v0 v1 v2:Value} {L1 L2:List Int}
theorem MdR.below (h:MdR w0 w a x S N m P Q v0 v1 L1 v2 L2) (y:Below w.heap.size w w'):MdR w0 w' a x S N m P Q v0 v1 L1 v2 L2:=
 ⟨h.ca.below y,h.ra.below y,h.pq,h.lp,h.lq,bt h.bel y (Nat.le_refl _),own_below h.r0 y,own_below h.r1 y,own_below h.r2 y,h.n0,h.n1,h.n2,h.n02,h.n12⟩
theorem MdR.push {xW:World} {z:Int} {g cap:Nat} (h:MdR w0 w a x S N m P Q v0 v1 L1 v2 L2) (y:Below w.heap.size w xW) (O:w'.ownsRow w0.heap.size 3 1 (.slice (some ⟨g,0,none⟩) (L2.length+1) cap) (L2.length+1) (zC L2++[.int .i64 z])) (G:xW.grownBy w' v2.ownBlock) (hg:v2.ownBlock=some g∨g=xW.heap.size):
 MdR w0 w' a x S N m P Q v0 v1 L1 (.slice (some ⟨g,0,none⟩) (L2++[z]).length cap) (L2++[z]):=by
 have hx:=h.below y
 have k:Kept (fun j=>v2.ownBlock=some j) xW w':=(Kept.refl _ xW).grown G (fun _ e=>e)
 have hl:(L2++[z]).length=L2.length+1:=by simp
 have hgn:∀j,(Value.slice (some ⟨g,0,none⟩) (L2++[z]).length cap).ownBlock=some j→j=g:=fun j hj=>by
  have:g=j:=by simpa [Value.ownBlock] using hj
  exact this.symm
 refine⟨hx.ca.kept k (fun j hj e=>(hx.n2 j e).1 hj),hx.ra.kept k (fun j hj e=>(hx.n2 j e).2 hj),hx.pq,hx.lp,hx.lq,hx.bel.trans (k.below hx.bel.size (fun j hj=>(own_low hx.r2 hj).1)),own_kept hx.r0 k (fun j hj e=>hx.n02 j hj e),own_kept hx.r1 k (fun j hj e=>hx.n12 j hj e),?_,hx.n0,hx.n1,fun j hj=>?_,fun j hj e=>?_,fun j hj e=>?_⟩
 ·rw[hl,show zC (L2++[z])=zC L2++[.int .i64 z] by simp[zC]]
  exact O
 ·have:=hgn j hj
  subst this
  rcases hg with e|e
  ·exact hx.n2 _ e
  ·exact⟨fun hp=>by have:=hx.ca.plt hp;omega,fun hq=>by have:=hx.ra.plt hq;omega⟩
 ·have:=hgn j e
  subst this
  rcases hg with e|e
  ·exact hx.n02 _ hj e
  ·have:=(own_low hx.r0 hj).2
   omega
 ·have:=hgn j e
  subst this
  rcases hg with e|e
  ·exact hx.n12 _ hj e
  ·have:=(own_low hx.r1 hj).2
   omega
theorem MdR.turn (h:MdR w0 w a x S N m P Q v0 v1 L1 v2 L2):MdR w0 w a x S N m P Q v0 v2 L2 (.slice none 0 0) []:=
 ⟨h.ca,h.ra,h.pq,h.lp,h.lq,h.bel,h.r0,h.r2,World.ownsRow_nil _ _ _ _,h.n0,h.n2,fun _ hj=>(by cases hj),fun _ _ e=>(by cases e),fun _ _ e=>(by cases e)⟩
theorem MdR.two {p q:Int} (h:MdR w0 w a x S N m P Q v0 v1 L1 v2 L2):MdR w0 (w.alloc (.cells #[.int .i64 p,.int .i64 q] 3)) a x S N m P Q v0 (.slice none 0 0) [] (.slice (some ⟨w.heap.size,0,none⟩) 2 2) [p,q]:=by
 have y:Below w.heap.size w (w.alloc (.cells #[.int .i64 p,.int .i64 q] 3)):=al (Below.refl _ _) _
 have hx:=h.below y
 have hj':∀j,(Value.slice (some ⟨w.heap.size,0,none⟩) 2 2).ownBlock=some j→j=w.heap.size:=fun j hj=>by
  have:w.heap.size=j:=by simpa [Value.ownBlock] using hj
  exact this.symm
 refine⟨hx.ca,hx.ra,hx.pq,hx.lp,hx.lq,hx.bel,hx.r0,World.ownsRow_nil _ _ _ _,⟨rfl,.inr ⟨w.heap.size,2,_,rfl,h.bel.size,heap_alloc_new w _,Nat.le_refl _,by decide,rfl,rfl⟩⟩,hx.n0,fun _ hj=>(by cases hj),fun j hj=>?_,fun j hj e=>?_,fun _ hj=>(by cases hj)⟩
 ·rw[hj' j hj]
  exact⟨fun hp=>absurd (h.ca.plt hp) (Nat.lt_irrefl _),fun hq=>absurd (h.ra.plt hq) (Nat.lt_irrefl _)⟩
 ·have h1:=hj' j e
  have h2:=(own_low h.r0 hj).2
  omega
theorem MdR.makeP (h:MdR w0 w a x S N m P Q v0 v1 L1 v2 L2) (hk:Kept P w w') (hp:∀k,P' k→P k∨w.heap.size≤k):
 RA w' x S 8192 N Q∧Below w0.heap.size w0 w'∧(∀j,P' j→¬Q j)∧(∀j,P' j→w0.heap.size≤j)∧w'.ownsRow w0.heap.size 3 1 v0 S.length (zC S)∧w'.ownsRow w0.heap.size 3 1 v1 L1.length (zC L1)∧w'.ownsRow w0.heap.size 3 1 v2 L2.length (zC L2)∧(∀j,v0.ownBlock=some j→¬P' j)∧(∀j,v1.ownBlock=some j→¬P' j)∧(∀j,v2.ownBlock=some j→¬P' j):=by
 refine⟨h.ra.kept hk (fun j hj e=>h.pq j e hj),h.bel.trans (hk.below h.bel.size h.lp),fun j hj hq=>?_,fun j hj=>?_,own_kept h.r0 hk (fun j hj=>(h.n0 j hj).1),own_kept h.r1 hk (fun j hj=>(h.n1 j hj).1),own_kept h.r2 hk (fun j hj=>(h.n2 j hj).1),fun j hj hp'=>?_,fun j hj hp'=>?_,fun j hj hp'=>?_⟩
 ·rcases hp j hj with h1|h1
  ·exact h.pq j h1 hq
  ·have:=h.ra.plt hq
   omega
 ·rcases hp j hj with h1|h1
  ·exact h.lp j h1
  ·exact Nat.le_trans h.bel.size h1
 ·rcases hp j hp' with h1|h1
  ·exact(h.n0 j hj).1 h1
  ·have:=(own_low h.r0 hj).2
   omega
 ·rcases hp j hp' with h1|h1
  ·exact(h.n1 j hj).1 h1
  ·have:=(own_low h.r1 hj).2
   omega
 ·rcases hp j hp' with h1|h1
  ·exact(h.n2 j hj).1 h1
  ·have:=(own_low h.r2 hj).2
   omega
theorem MdR.makeQ {w1:World} {m':Nat} (h:MdR w0 w a x S N m P Q v0 v1 L1 v2 L2) (hc:CA w1 a S 8192 N' m' P') (hk:Kept P w w1) (hp:∀k,P' k→P k∨w.heap.size≤k) (hr:RA w' x S 8192 N' Q') (hk2:Kept Q w1 w') (hq:∀k,Q' k→Q k∨w1.heap.size≤k):
 MdR w0 w' a x S N' m' P' Q' v0 v1 L1 v2 L2:=by
 obtain⟨k1,k2,k3,k4,k5,k6,k7,k8,k9,k10⟩:=h.makeP hk hp
 have hsz:=hk.size
 have nq:∀ {v:Value} {L:List Int},w.ownsRow w0.heap.size 3 1 v L.length (zC L)→(∀j,v.ownBlock=some j→¬P j∧¬Q j)→∀j,v.ownBlock=some j→¬Q' j:=fun {v L} hw hn j hj hq'=>by
  rcases hq j hq' with h1|h1
  ·exact(hn j hj).2 h1
  ·have:=(own_low hw hj).2
   omega
 refine⟨hc.kept hk2 (fun j hj e=>k3 j hj e),hr,fun j hj hq'=>?_,k4,fun j hj=>?_,k2.trans (hk2.below k2.size h.lq),own_kept k5 hk2 (fun j hj=>(h.n0 j hj).2),own_kept k6 hk2 (fun j hj=>(h.n1 j hj).2),own_kept k7 hk2 (fun j hj=>(h.n2 j hj).2),fun j hj=>⟨k8 j hj,nq h.r0 h.n0 j hj⟩,fun j hj=>⟨k9 j hj,nq h.r1 h.n1 j hj⟩,fun j hj=>⟨k10 j hj,nq h.r2 h.n2 j hj⟩,h.n02,h.n12⟩
 ·rcases hq j hq' with h1|h1
  ·exact k3 j hj h1
  ·have:=hc.plt hj
   omega
 ·rcases hq j hj with h1|h1
  ·exact h.lq j h1
  ·exact Nat.le_trans k2.size h1
end
set_option maxRecDepth 100000 in
set_option maxHeartbeats 1000000 in
theorem ints_any (a1 a2:Option Addr) (c1 c2:Nat) (I J:List Int) (w:World) (hl:I.length≤140737488351232) (h1:ZAt w a1 I) (h2:ZAt w a2 J):
 Calls Try.prog 23 #[.slice a1 I.length c1,.slice a2 J.length c2] w fun e w'=>e=.returned (.bool (decide (I=J)))∧Below w.heap.size w w':=by
 by_cases hlen:I.length=J.length
 ·go_enter Try.func23,Try.ntmps23
  rw[hlen] at hl ⊢
  have HL:=hide hlen
  have H1:=hide h1
  have H2:=hide h2
  clear hlen h1 h2
  go_wp2
  go_loopw [5] (fun i wr=>∃k:Nat,k≤J.length∧i=.int .i64 k∧Hid (∀j,j<k→I.getD j 0=J.getD j 0)∧Hid (Below w.heap.size w wr)) (fun i _=>J.length-(RowKit.intOf i).toNat)
  case atStart=>exact⟨0,Nat.zero_le _,rfl,fun j hj=>absurd hj (by omega),Below.refl _ _⟩
  case round=>
   obtain⟨k,hk,rfl,hok,HQ⟩:=hrel
   by_cases hlt:k<J.length
   ·obtain⟨b,off,rfl,hb,hc⟩:=H1.out.get (i:=k) (by have:=HL.out;omega)
    obtain⟨b',off',rfl,hb',hc'⟩:=H2.out.get hlt
    have q1:=(HQ.out.cell (p:=⟨b,off+k,none⟩) hb).trans hc
    have q3:=(HQ.out.cell (p:=⟨b',off'+k,none⟩) hb').trans hc'
    obtain⟨s,hs⟩:∃s,s=I.getD k 0:=⟨_,rfl⟩
    obtain⟨t,ht⟩:∃t,t=J.getD k 0:=⟨_,rfl⟩
    rw[←hs] at q1
    rw[←ht] at q3
    have HS:=hide hs
    have HT:=hide ht
    clear hs ht hc hc'
    by_cases e1:s=t
    ·subst e1
     go_wp2
     go_quiet (fail)
     go_wp2
     go_roundw
     case rel=>
      refine⟨k+1,by omega,by go_num,fun j hj=>?_,below_drewN HQ.out _⟩
      rcases Nat.lt_or_ge j k with h|h
      ·exact hok.out j h
      ·rw[show j=k by omega,←HS.out,←HT.out]
     case measure=>simp[RowKit.intOf];omega
    ·have HF:Hid (decide (I=J)=false):=decide_eq_false fun e=>e1 (by rw[HS.out,HT.out,e])
     go_wp2
     go_quiet (fail)
     go_wp2
     go_ret
     exact⟨by rw[HF.out];rfl,below_drewN HQ.out _⟩
   ·have h8:k=J.length:=by omega
    subst h8
    go_wp2
    go_ret
    refine⟨?_,HQ.out⟩
    have:I=J:=by
     apply List.ext_getElem HL.out
     intro j h3 h4
     have:=hok.out j h4
     rwa [List.getD_eq_getElem?_getD,List.getElem?_eq_getElem h3,List.getD_eq_getElem?_getD,List.getElem?_eq_getElem h4] at this
    rw[decide_eq_true this]
    rfl
 ·have HF:Hid (decide (I=J)=false):=decide_eq_false fun e=>hlen (by rw[e])
  have hl':¬((I.length:Int)=(J.length:Int)):=by omega
  go_enter Try.func23,Try.ntmps23
  go_wp2
  go_ret
  exact⟨by rw[HF.out];rfl,Below.refl _ _⟩
structure RW where
 lv:Int
 ka:Option Addr
 kc:Nat
 ks:List Int
structure RawAt (w:World) (no:Option Addr) (Ns:List RW):Prop where
 at':Ns=[]∨∃b off,no=some ⟨b,off,none⟩∧b<w.heap.size∧∀i (h:i<Ns.length),w.cell? ⟨b,off+i*2,none⟩=some (.int .i64 (Ns[i]).lv)∧w.cell? ⟨b,off+i*2+1,none⟩=some (.slice (Ns[i]).ka (Ns[i]).ks.length (Ns[i]).kc)
 kids:∀x∈Ns,ZAt w x.ka x.ks∧x.ks.length≤140737488351232
theorem RawAt.below {w w':World} {no:Option Addr} {Ns:List RW} (h:RawAt w no Ns) (y:Below w.heap.size w w'):RawAt w' no Ns:=by
 refine⟨?_,fun x hx=>⟨(h.kids x hx).1.below y,(h.kids x hx).2⟩⟩
 rcases h.at' with e|⟨b,off,e,hb,hc⟩
 ·exact .inl e
 ·exact .inr ⟨b,off,e,Nat.lt_of_lt_of_le hb y.size,fun i hi=>⟨(y.cell (p:=⟨b,off+i*2,none⟩) hb).trans (hc i hi).1,(y.cell (p:=⟨b,off+i*2+1,none⟩) hb).trans (hc i hi).2⟩⟩
theorem min_run (x y:Int):∃t,(∀W,(Builtin.min_ #[3,3] 3 #[.int .i64 x,.int .i64 y]).run Try.prog W=.ok (.int .i64 t) W)∧t≤x∧t≤y∧(t=x∨t=y):=by
 refine⟨if y<x then y else x,fun W=>rfl,?_,?_,?_⟩
 ·split<;>omega
 ·split<;>omega
 ·split
  ·exact .inr rfl
  ·exact .inl rfl
section
variable {w:World}
set_option maxRecDepth 100000 in
set_option maxHeartbeats 1000000 in
theorem add_any (n m:Int) (h0:0≤n) (h1:n≤1125899906842624) (h2:0≤m) (h3:m≤1125899906842624):
 Calls Try.prog 6 #[.int .i64 n,.int .i64 m] w fun e w'=>(∃s,e=.returned (.int .i64 s)∧0≤s∧s≤2147483648)∧w'=w:=by
 have e1:IntKind.i64.wrap (2147483647-n)=2147483647-n:=by simp[IntKind.wrap,IntKind.bits,IntKind.signed];omega
 have e2:IntKind.i64.wrap (n+m)=n+m:=by simp[IntKind.wrap,IntKind.bits,IntKind.signed];omega
 by_cases hg:2147483647-n<m
 ·go_enter Try.func6,Try.ntmps6
  go_wp2
  go_ret
  exact⟨⟨_,rfl,by decide,by decide⟩,rfl⟩
 ·go_enter Try.func6,Try.ntmps6
  go_wp2
  go_ret
  exact⟨⟨_,rfl,by omega,by omega⟩,rfl⟩
set_option maxRecDepth 100000 in
set_option maxHeartbeats 4000000 in
theorem size_any (ao no ro:Option Addr) (l1 c1 c2 l3 c3:Nat) (Ns:List RW) (hn:RawAt w no Ns) (hl1:l1≤140737488351232) (hl2:Ns.length≤140737488351232) (hl3:l3≤140737488351232):
 Calls Try.prog 7 #[.agg #[.slice ao l1 c1,.slice no Ns.length c2,.slice ro l3 c3]] w fun e w'=>(∃s,e=.returned (.int .i64 s)∧0≤s∧s≤21474836470)∧Below w.heap.size w w':=by
 obtain⟨w1,hw1⟩:∃w1,w.alloc (.cells #[.slice ao l1 c1,.slice no Ns.length c2,.slice ro l3 c3] 25)=w1:=⟨_,rfl⟩
 have X1:Hid (Below w.heap.size w w1):=by rw[←hw1];exact al (Below.refl _ _) _
 have B1:w1.heap[w.heap.size]? =some (.cells #[.slice ao l1 c1,.slice no Ns.length c2,.slice ro l3 c3] 25 (0,0)):=by rw[←hw1];exact heap_alloc_new w _
 have q0:w1.cell? ⟨w.heap.size,0,none⟩=some (.slice ao l1 c1):=by rw[cell_of_row w1 _ _ _ _ _ B1];rfl
 have q1:w1.cell? ⟨w.heap.size,1,none⟩=some (.slice no Ns.length c2):=by rw[cell_of_row w1 _ _ _ _ _ B1];rfl
 have q2:w1.cell? ⟨w.heap.size,2,none⟩=some (.slice ro l3 c3):=by rw[cell_of_row w1 _ _ _ _ _ B1];rfl
 have HN:=hide (hn.below X1.out)
 have A1:=hide (add_any (w:=w1) (l1:Int) (l3:Int) (by omega) (by omega) (by omega) (by omega))
 clear hn B1
 go_enter Try.func7,Try.ntmps7
 go_upto_region 1 with fail
 try rw[hw1]
 clear hw1
 go_wp2_with (first
  |(go_at_call 6;refine A1.out.mono ?_;clear A1;rintro e w2 ⟨⟨s0,rfl,hs0,hs1⟩,h⟩;rw[h];clear h;obtain⟨t0,hmin,ht1,ht2,ht3⟩:=min_run s0 2147483647;have ht4:0≤t0:=(by rcases ht3 with e|e<;>omega);have em:IntKind.i64.wrap (10*t0)=10*t0:=(by simp[IntKind.wrap,IntKind.bits,IntKind.signed];omega);have HT:=hide ht3;clear ht3))
 go_loopw [3,4] (fun v3 v4 wr=>∃(s:Int) (k:Nat),v3=.int .i64 s∧v4=.int .i64 (k:Int)∧k≤Ns.length∧0≤s∧s≤21474836470∧Hid (wr=w1)) (fun _ v _=>Ns.length-(RowKit.intOf v).toNat)
 case atStart=>exact⟨10*t0,0,rfl,rfl,Nat.zero_le _,by omega,by omega,rfl⟩
 case round=>
  obtain⟨s,k,rfl,rfl,hk,hsa,hsb,HW⟩:=hrel
  rw[HW.out]
  clear HW hmin em
  by_cases hlk:k<Ns.length
  ·have hlk':(k:Int)<(Ns.length:Int):=by omega
   by_cases hsm:s≤2147483647
   ·obtain⟨b,off,hno,hb,hcl⟩:=HN.out.at'.resolve_left (fun e=>by rw[e] at hlk;cases hlk)
    subst hno
    obtain⟨p1,p2⟩:=hcl k hlk
    obtain⟨z,hz⟩:∃z,Ns[k]=z:=⟨_,rfl⟩
    have hzl:z.ks.length≤140737488351232:=by rw[←hz];exact(HN.out.kids _ (List.getElem_mem hlk)).2
    rw[hz] at p1 p2
    clear hz hcl
    obtain⟨t1,hmin1,hu1,hu2,hu3⟩:=min_run (z.ks.length:Int) 2147483647
    have hu4:0≤t1:=by rcases hu3 with e|e<;>omega
    have em1:IntKind.i64.wrap (10*t1)=10*t1:=by simp[IntKind.wrap,IntKind.bits,IntKind.signed];omega
    have HU:=hide hu3
    clear hu3
    have A2:=hide (add_any (w:=w1) 200 (10*t1) (by decide) (by decide) (by omega) (by omega))
    have A3:Hid (∀s2,0≤s2→s2≤2147483648→Calls Try.prog 6 #[.int .i64 s,.int .i64 s2] w1 fun e w'=>(∃s,e=.returned (.int .i64 s)∧0≤s∧s≤2147483648)∧w'=w1):=fun s2 h1 h2=>add_any s s2 hsa (by omega) h1 (by omega)
    go_upto_region 4 with(first
     |(go_at_call 6;refine A2.out.mono ?_;clear A2;rintro e w3 ⟨⟨s2,rfl,hv0,hv1⟩,h⟩;rw[h];clear h)
     |(go_at_call 6;refine(A3.out s2 hv0 hv1).mono ?_;clear A3;rintro e w4 ⟨⟨s3,rfl,hx0,hx1⟩,h⟩;rw[h];clear h))
    go_wp2
    go_roundw
    case rel=>exact⟨s3,k+1,rfl,by go_num,by omega,hx0,by omega,by first|exact rfl|exact trivial⟩
    case measure=>simp[RowKit.intOf];omega
   ·have hsm':2147483647<s:=by omega
    go_wp2
    go_ret
    exact⟨⟨_,rfl,hsa,hsb⟩,X1.out⟩
  ·have hlk':¬(k:Int)<(Ns.length:Int):=by omega
   go_wp2
   go_ret
   exact⟨⟨_,rfl,hsa,hsb⟩,X1.out⟩
end
end Go.Proofs.Ytnddhkhmbjeefaa

