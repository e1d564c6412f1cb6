/-
  awake by its contract. No condition.
-/
import Derived.Test.YtnddhkhmbjeefaaC32
import Derived.Test.YtnddhkhmbjeefaaC36
import Derived.Test.YtnddhkhmbjeefaaC31
namespace Go.Proofs.Ytnddhkhmbjeefaa
open Go.RowKit Go.Lib Go.Maps
section
variable {V:World} {a:Nat} {P:Nat→Prop} {m:Nat} {g1 g2:Nat}
theorem na_sml:Sml S4 (([10]:List Int).map fun f p=>sayR Na p f):=⟨by decide,by decide,_,by decide,fun _ h=>h⟩
theorem na_has:∀f∈([10]:List Int),hasR Na f:=by decide
theorem reb_six (h:CA V a S4 9 Na m P) (z1:ZAt V (some ⟨g1,0,none⟩) [10]) (z2:ZAt V (some ⟨g2,0,none⟩) [0,2,1,3]):
 Calls Try.prog 12 #[.pointer (some ⟨a,0,none⟩),.slice (some ⟨g1,0,none⟩) 1 1,.slice (some ⟨g2,0,none⟩) 4 4,.int .i64 6] V fun e w'=>∃b g c P',e=.returned (.tuple #[.pointer (some ⟨b,0,none⟩),.slice (some ⟨g,0,none⟩) 1 c,.int .i64 0])∧RwZ w' g [7]∧CA w' b (ledS S4 [0,2,1,3]) 6 Nb 6 P'∧Below V.heap.size V w':=by
 refine(rebuild_any (most:=6) (some ⟨g1,0,none⟩) (some ⟨g2,0,none⟩) 1 4 h z1 z2 na_has (by decide) na_ord (by decide) (by decide) na_sml).mono (fun e w' hr=>?_)
 have e6:foldF S4 6 (([10]:List Int).map fun f p=>sayR Na p f) [0,2,1,3]=([7],0,Nb):=na_six
 unfold RbL at hr
 rw[e6] at hr
 obtain⟨hor,hb,_⟩:=hr
 rcases hor with⟨_,b,g,c,P',h1,h2,h3,_⟩|⟨h1,_⟩
 ·exact⟨b,g,c,P',h1,h2,h3,hb⟩
 ·exact absurd rfl h1
theorem reb_five (h:CA V a S4 9 Na m P) (z1:ZAt V (some ⟨g1,0,none⟩) [10]) (z2:ZAt V (some ⟨g2,0,none⟩) [0,2,1,3]):
 Calls Try.prog 12 #[.pointer (some ⟨a,0,none⟩),.slice (some ⟨g1,0,none⟩) 1 1,.slice (some ⟨g2,0,none⟩) 4 4,.int .i64 5] V fun e w'=>e=.returned (.tuple #[.pointer none,.slice none 0 0,.int .i64 2])∧Below V.heap.size V w':=by
 refine(rebuild_any (most:=5) (some ⟨g1,0,none⟩) (some ⟨g2,0,none⟩) 1 4 h z1 z2 na_has (by decide) na_ord (by decide) (by decide) na_sml).mono (fun e w' hr=>?_)
 have e5:(foldF S4 5 (([10]:List Int).map fun f p=>sayR Na p f) [0,2,1,3]).2.1=2:=na_five
 unfold RbL at hr
 rw[e5] at hr
 obtain⟨hor,hb,_⟩:=hr
 rcases hor with⟨h1,_⟩|⟨_,h1⟩
 ·exact absurd h1 (by decide)
 ·exact⟨h1,hb⟩
theorem best_na (h:CA V a S4 9 Na m P) (z1:ZAt V (some ⟨g1,0,none⟩) [10]):
 Calls Try.prog 15 #[.pointer (some ⟨a,0,none⟩),.slice (some ⟨g1,0,none⟩) 1 1,.int .i64 100] V fun e w'=>∃g,e=.returned (.tuple #[.slice (some ⟨g,0,none⟩) 4 4,.int .i64 0])∧RwZ w' g [0,2,1,3]∧Below V.heap.size V w':=by
 refine(bestAll_any (most:=100) (some ⟨g1,0,none⟩) 1 h z1 na_has (by decide) (by decide) (by decide) na_sml).mono (fun e w' hr=>?_)
 obtain⟨g,h1,h2,_,hb⟩:=hr
 have eb:bsO (cN S4 (([10]:List Int).map fun f p=>sayR Na p f) 100) (lows S4.length) S4.length=[0,2,1,3]:=na_best
 rw[eb] at h2
 exact⟨g,h1,h2,hb⟩
end
set_option maxRecDepth 100000 in
set_option maxHeartbeats 8000000 in
theorem awake_any (w:World):Calls Try.prog 8 #[] w fun e w'=>e=.returned (.bool true)∧Below w.heap.size w w':=by
 obtain⟨i3,hi3,hz30,hz31,hz32⟩:=info_parts Try.info3
 have X1:Hid (Below w.heap.size w (w.alloc (.cells #[.int .i64 2,.int .i64 2,.int .i64 2,.int .i64 2] 3))):=al (Below.refl _ _) _
 have CN:=hide (new_any (some ⟨w.heap.size,0,none⟩) 4 S4 9 (w.alloc (.cells #[.int .i64 2,.int .i64 2,.int .i64 2,.int .i64 2] 3)) (by decide) (zat_new w S4))
 go_enter Try.func8,Try.ntmps8
 go_upto_region 2 with(go_at_call 21;refine CN.out.mono ?_;rintro en w2 ⟨hor,hb⟩;obtain⟨a,P,rfl,hca,hpa⟩:∃a P,en=.returned (.tuple #[.pointer (some ⟨a,0,none⟩),.int .i64 0])∧CA w2 a S4 9 [] 0 P∧∀k,P k→w.heap.size≤k:=(by rcases hor with⟨_,_,_,a,P,h3,h4,h5⟩|⟨h3,_⟩;(exact⟨a,P,h3,h4,fun k hk=>Nat.le_trans X1.out.size (h5 k hk)⟩);(exact absurd ⟨s4_ok,by decide,by decide⟩ h3));have B2:=hide (bt X1.out hb (Nat.le_refl _));have HCA:=hide hca;have HPA:=hide hpa;clear hor hca hpa hb)
 have A2:Hid (ArR w w2 a S4 9 (Na.take 0) 0 P (.slice none 0 0) [] (.slice none 0 0) []):=⟨HCA.out,HPA.out,B2.out,World.ownsRow_nil _ _ _ _,World.ownsRow_nil _ _ _ _,fun _ hj=>(by cases hj),fun _ hj=>(by cases hj),fun _ _ e=>(by cases e)⟩
 clear CN X1 HCA HPA B2
 go_wp2
 go_loopw [3,4] (fun v3 v4 wr=>∃k:Nat,k≤2∧v4=.int .i64 (k:Int)∧∃sa sc P,v3=.slice sa k sc∧Hid (ArR w wr a S4 9 (Na.take k) k P (.slice none 0 0) [] (.slice sa k sc) (([2,3]:List Int).take k))) (fun _ v _=>2-(RowKit.intOf v).toNat)
 case atStart=>exact⟨0,by omega,rfl,none,0,P,rfl,A2⟩
 case round=>
  obtain⟨k,hk,rfl,sa,sc,P1,rfl,AI⟩:=hrel
  clear A2
  by_cases hlk:k<2
  ·have hlk':(k:Int)<2:=by omega
   have e1:IntKind.i64.wrap (1-(k:Int))=1-(k:Int):=by simp[IntKind.wrap,IntKind.bits,IntKind.signed];omega
   have KD:Hid ((Na.getD k (0,[])).1=3∧(Na.getD k (0,[])).2=[1-(k:Int),(k:Int)]∧(([2,3]:List Int).take k).length=k∧([2,3]:List Int).take (k+1)=([2,3]:List Int).take k++[(k:Int)+2]):=by
    have:k=0∨k=1:=by omega
    rcases this with rfl|rfl<;>exact⟨by decide,by decide,by decide,by decide⟩
   have YA:Hid (Below wr.heap.size wr (wr.alloc (.cells #[.int .i64 (1-(k:Int)),.int .i64 (k:Int)] 3))):=al (Below.refl _ _) _
   have MK:=hide (AI.out.mkNa (by omega) YA.out wr.heap.size 2 KD.out.1 KD.out.2.1 (zat_new wr [1-(k:Int),(k:Int)]))
   go_upto_region 9 with(go_at_call 22;refine MK.out.mono ?_;rintro e w6 ⟨rfl,P6,h6⟩;have A6:=hide h6;clear h6)
   clear MK
   have Y7:Hid (Below w6.heap.size w6 (w6.alloc (.cells #[.int .i64 ((k:Int)+2)] 3))):=al (Below.refl _ _) _
   have SW8:Hid (w.heap.size≤(w6.alloc (.cells #[.int .i64 ((k:Int)+2)] 3)).heap.size):=Nat.le_trans A6.out.bel.size Y7.out.size
   have R7:=own_below A6.out.r2 Y7.out
   rw[KD.out.2.2.1] at R7
   replace R7:=hide R7
   go_upto_region 7 with(at_builtin;refine wpList_append_lies _ rfl (.tmp 51) (.tmp 53) 22 rfl w.heap.size 3 i3 (.int .i64 0) 1 8 Try.underlying22 hi3 hz30 hz31 hz32 rfl (by decide) _ k (zC (([2,3]:List Int).take k)) rfl R7.out ⟨w6.heap.size,0,none⟩ 1 1 [.int .i64 ((k:Int)+2)] rfl rfl (one_new w6 _ _) (by simp[Value.oneCell']) (by decide) (by unfold maxLen;omega) (by omega) SW8.out _ rfl ?_;intro g8 cap8 w8 h1 h2 h3 h4;have O8:=hide h1;have G8:=hide h2;have H8:=hide h3;clear h1 h2 h3 h4)
   have O9:=O8.out
   have FIN:=A6.out.push (x:=(k:Int)+2) (cap:=cap8) (g:=g8) Y7.out (by rw[KD.out.2.2.1];exact O9) G8.out H8.out
   rw[←KD.out.2.2.2,show(([2,3]:List Int).take (k+1)).length=k+1 by rw[KD.out.2.2.2,List.length_append,KD.out.2.2.1];rfl] at FIN
   replace FIN:=hide FIN
   clear O9 R7 O8 G8 H8 SW8 Y7 A6 KD YA
   go_wp2
   go_roundw
   case rel=>exact⟨k+1,by omega,by go_num,_,_,_,rfl,FIN⟩
   case measure=>simp[RowKit.intOf];omega
  ·have hlk':¬(k:Int)<2:=by omega
   obtain rfl:k=2:=by omega
   obtain⟨lg,rfl⟩:∃lg,sa=some ⟨lg,0,none⟩:=by
    rcases AI.out.r2.2 with⟨_,h⟩|⟨g,_,_,e,_⟩
    ·cases h
    ·injection e with e
     exact⟨g,e⟩
   have A4:Hid (ArR w wr a S4 9 (Na.take 2) 2 P1 (.slice (some ⟨lg,0,none⟩) 2 sc) [2,3] (.slice none 0 0) []):=AI.out.turn
   clear AI
   generalize wr=wo at *
   go_wp2
   go_loopw [7,8] (fun v7 v8 wr=>∃(k:Nat) (pz:Int),k≤4∧v8=.int .i64 pz∧pz=(k:Int)∧∃sa sd P,v7=.slice sa k sd∧Hid (ArR w wr a S4 9 (Na.take (2+k)) (2+k) P (.slice (some ⟨lg,0,none⟩) 2 sc) [2,3] (.slice sa k sd) (([4,5,6,7]:List Int).take k))) (fun _ v _=>4-(RowKit.intOf v).toNat)
   case atStart=>exact⟨0,0,by omega,rfl,rfl,none,0,P1,rfl,A4⟩
   case round=>
    obtain⟨k,pz,hk4,rfl,hpz,sa,sd,P2,rfl,AI⟩:=hrel
    clear A4
    by_cases hlk:k<4
    ·have hk4':k=0∨k=1∨k=2∨k=3:=by omega
     rcases hk4' with rfl|rfl|rfl|rfl
     ·have hpz':pz=0:=by omega
      subst hpz'
      clear hpz hk4 hlk
      have yA:Below wr.heap.size wr (wr.alloc (.cells #[.int .i64 0,.int .i64 0] 3)):=al (Below.refl _ _) _
      have l1:(wr.alloc (.cells #[.int .i64 0,.int .i64 0] 3)).cell? ⟨lg,0,none⟩=some (.int .i64 2):=(World.ownsRow.cellAt (own_below AI.out.r1 yA) 0 (by decide)).trans rfl
      have YB:Hid (Below wr.heap.size wr (wr.alloc (.cells #[.int .i64 2,.int .i64 0] 3))):=al (Below.refl _ _) _
      have ZB:Hid (ZAt (wr.alloc (.cells #[.int .i64 2,.int .i64 0] 3)) (some ⟨wr.heap.size,0,none⟩) [2,0]):=zat_new wr [2,0]
      have MK:Hid (Calls Try.prog 22 #[.pointer (some ⟨a,0,none⟩),.int .i64 2,.slice (some ⟨wr.heap.size,0,none⟩) 2 2] (wr.alloc (.cells #[.int .i64 2,.int .i64 0] 3)) fun e w'=>e=.returned (.tuple #[.int .i64 4,.int .i64 0])∧∃P',ArR w w' a S4 9 (Na.take 3) 3 P' (.slice (some ⟨lg,0,none⟩) 2 sc) [2,3] (.slice sa 0 sd) (([4,5,6,7]:List Int).take 0)):=AI.out.mkNa (by decide) YB.out wr.heap.size 2 (lv:=2) (A:=[2,0]) rfl rfl ZB.out
      clear yA
      go_upto_region 17 with(go_at_call 22;refine MK.out.mono ?_;rintro e w6 ⟨rfl,P6,h6⟩;have A6:=hide h6;clear h6)
      clear l1 MK ZB YB
      have Y7:Hid (Below w6.heap.size w6 (w6.alloc (.cells #[.int .i64 4] 3))):=al (Below.refl _ _) _
      have SW8:Hid (w.heap.size≤(w6.alloc (.cells #[.int .i64 4] 3)).heap.size):=Nat.le_trans A6.out.bel.size Y7.out.size
      have R7:=hide (own_below A6.out.r2 Y7.out)
      go_upto_region 13 with(at_builtin;refine wpList_append_lies _ rfl (.tmp 75) (.tmp 77) 22 rfl w.heap.size 3 i3 (.int .i64 0) 1 8 Try.underlying22 hi3 hz30 hz31 hz32 rfl (by decide) _ 0 (zC (([4,5,6,7]:List Int).take 0)) rfl R7.out ⟨w6.heap.size,0,none⟩ 1 1 [.int .i64 4] rfl rfl (one_new w6 _ _) (by simp[Value.oneCell']) (by decide) (by unfold maxLen;omega) (by omega) SW8.out _ rfl ?_;intro g8 cap8 w8 h1 h2 h3 h4;have O8:=hide h1;have G8:=hide h2;have H8:=hide h3;clear h1 h2 h3 h4)
      have FIN:=hide (A6.out.push (x:=4) Y7.out O8.out G8.out H8.out)
      go_wp2
      go_roundw
      case rel=>exact⟨1,1,by omega,rfl,rfl,some ⟨g8,0,none⟩,cap8,P6,rfl,FIN⟩
      case measure=>decide
     ·have hpz':pz=1:=by omega
      subst hpz'
      clear hpz hk4 hlk
      have yA:Below wr.heap.size wr (wr.alloc (.cells #[.int .i64 0,.int .i64 0] 3)):=al (Below.refl _ _) _
      have l1:(wr.alloc (.cells #[.int .i64 0,.int .i64 0] 3)).cell? ⟨lg,1,none⟩=some (.int .i64 3):=(World.ownsRow.cellAt (own_below AI.out.r1 yA) 1 (by decide)).trans rfl
      have YB:Hid (Below wr.heap.size wr (wr.alloc (.cells #[.int .i64 3,.int .i64 0] 3))):=al (Below.refl _ _) _
      have ZB:Hid (ZAt (wr.alloc (.cells #[.int .i64 3,.int .i64 0] 3)) (some ⟨wr.heap.size,0,none⟩) [3,0]):=zat_new wr [3,0]
      have MK:Hid (Calls Try.prog 22 #[.pointer (some ⟨a,0,none⟩),.int .i64 2,.slice (some ⟨wr.heap.size,0,none⟩) 2 2] (wr.alloc (.cells #[.int .i64 3,.int .i64 0] 3)) fun e w'=>e=.returned (.tuple #[.int .i64 5,.int .i64 0])∧∃P',ArR w w' a S4 9 (Na.take 4) 4 P' (.slice (some ⟨lg,0,none⟩) 2 sc) [2,3] (.slice sa 1 sd) (([4,5,6,7]:List Int).take 1)):=AI.out.mkNa (by decide) YB.out wr.heap.size 2 (lv:=2) (A:=[3,0]) rfl rfl ZB.out
      clear yA
      go_upto_region 17 with(go_at_call 22;refine MK.out.mono ?_;rintro e w6 ⟨rfl,P6,h6⟩;have A6:=hide h6;clear h6)
      clear l1 MK ZB YB
      have Y7:Hid (Below w6.heap.size w6 (w6.alloc (.cells #[.int .i64 5] 3))):=al (Below.refl _ _) _
      have SW8:Hid (w.heap.size≤(w6.alloc (.cells #[.int .i64 5] 3)).heap.size):=Nat.le_trans A6.out.bel.size Y7.out.size
      have R7:=hide (own_below A6.out.r2 Y7.out)
      go_upto_region 13 with(at_builtin;refine wpList_append_lies _ rfl (.tmp 75) (.tmp 77) 22 rfl w.heap.size 3 i3 (.int .i64 0) 1 8 Try.underlying22 hi3 hz30 hz31 hz32 rfl (by decide) _ 1 (zC (([4,5,6,7]:List Int).take 1)) rfl R7.out ⟨w6.heap.size,0,none⟩ 1 1 [.int .i64 5] rfl rfl (one_new w6 _ _) (by simp[Value.oneCell']) (by decide) (by unfold maxLen;omega) (by omega) SW8.out _ rfl ?_;intro g8 cap8 w8 h1 h2 h3 h4;have O8:=hide h1;have G8:=hide h2;have H8:=hide h3;clear h1 h2 h3 h4)
      have FIN:=hide (A6.out.push (x:=5) Y7.out O8.out G8.out H8.out)
      go_wp2
      go_roundw
      case rel=>exact⟨2,2,by omega,rfl,rfl,some ⟨g8,0,none⟩,cap8,P6,rfl,FIN⟩
      case measure=>decide
     ·have hpz':pz=2:=by omega
      subst hpz'
      clear hpz hk4 hlk
      have yA:Below wr.heap.size wr (wr.alloc (.cells #[.int .i64 0,.int .i64 0] 3)):=al (Below.refl _ _) _
      have l1:(wr.alloc (.cells #[.int .i64 0,.int .i64 0] 3)).cell? ⟨lg,0,none⟩=some (.int .i64 2):=(World.ownsRow.cellAt (own_below AI.out.r1 yA) 0 (by decide)).trans rfl
      have YB:Hid (Below wr.heap.size wr (wr.alloc (.cells #[.int .i64 0,.int .i64 2] 3))):=al (Below.refl _ _) _
      have ZB:Hid (ZAt (wr.alloc (.cells #[.int .i64 0,.int .i64 2] 3)) (some ⟨wr.heap.size,0,none⟩) [0,2]):=zat_new wr [0,2]
      have MK:Hid (Calls Try.prog 22 #[.pointer (some ⟨a,0,none⟩),.int .i64 2,.slice (some ⟨wr.heap.size,0,none⟩) 2 2] (wr.alloc (.cells #[.int .i64 0,.int .i64 2] 3)) fun e w'=>e=.returned (.tuple #[.int .i64 6,.int .i64 0])∧∃P',ArR w w' a S4 9 (Na.take 5) 5 P' (.slice (some ⟨lg,0,none⟩) 2 sc) [2,3] (.slice sa 2 sd) (([4,5,6,7]:List Int).take 2)):=AI.out.mkNa (by decide) YB.out wr.heap.size 2 (lv:=2) (A:=[0,2]) rfl rfl ZB.out
      clear yA
      go_upto_region 17 with(go_at_call 22;refine MK.out.mono ?_;rintro e w6 ⟨rfl,P6,h6⟩;have A6:=hide h6;clear h6)
      clear l1 MK ZB YB
      have Y7:Hid (Below w6.heap.size w6 (w6.alloc (.cells #[.int .i64 6] 3))):=al (Below.refl _ _) _
      have SW8:Hid (w.heap.size≤(w6.alloc (.cells #[.int .i64 6] 3)).heap.size):=Nat.le_trans A6.out.bel.size Y7.out.size
      have R7:=hide (own_below A6.out.r2 Y7.out)
      go_upto_region 13 with(at_builtin;refine wpList_append_lies _ rfl (.tmp 75) (.tmp 77) 22 rfl w.heap.size 3 i3 (.int .i64 0) 1 8 Try.underlying22 hi3 hz30 hz31 hz32 rfl (by decide) _ 2 (zC (([4,5,6,7]:List Int).take 2)) rfl R7.out ⟨w6.heap.size,0,none⟩ 1 1 [.int .i64 6] rfl rfl (one_new w6 _ _) (by simp[Value.oneCell']) (by decide) (by unfold maxLen;omega) (by omega) SW8.out _ rfl ?_;intro g8 cap8 w8 h1 h2 h3 h4;have O8:=hide h1;have G8:=hide h2;have H8:=hide h3;clear h1 h2 h3 h4)
      have FIN:=hide (A6.out.push (x:=6) Y7.out O8.out G8.out H8.out)
      go_wp2
      go_roundw
      case rel=>exact⟨3,3,by omega,rfl,rfl,some ⟨g8,0,none⟩,cap8,P6,rfl,FIN⟩
      case measure=>decide
     ·have hpz':pz=3:=by omega
      subst hpz'
      clear hpz hk4 hlk
      have yA:Below wr.heap.size wr (wr.alloc (.cells #[.int .i64 0,.int .i64 0] 3)):=al (Below.refl _ _) _
      have l1:(wr.alloc (.cells #[.int .i64 0,.int .i64 0] 3)).cell? ⟨lg,1,none⟩=some (.int .i64 3):=(World.ownsRow.cellAt (own_below AI.out.r1 yA) 1 (by decide)).trans rfl
      have YB:Hid (Below wr.heap.size wr (wr.alloc (.cells #[.int .i64 0,.int .i64 3] 3))):=al (Below.refl _ _) _
      have ZB:Hid (ZAt (wr.alloc (.cells #[.int .i64 0,.int .i64 3] 3)) (some ⟨wr.heap.size,0,none⟩) [0,3]):=zat_new wr [0,3]
      have MK:Hid (Calls Try.prog 22 #[.pointer (some ⟨a,0,none⟩),.int .i64 2,.slice (some ⟨wr.heap.size,0,none⟩) 2 2] (wr.alloc (.cells #[.int .i64 0,.int .i64 3] 3)) fun e w'=>e=.returned (.tuple #[.int .i64 7,.int .i64 0])∧∃P',ArR w w' a S4 9 (Na.take 6) 6 P' (.slice (some ⟨lg,0,none⟩) 2 sc) [2,3] (.slice sa 3 sd) (([4,5,6,7]:List Int).take 3)):=AI.out.mkNa (by decide) YB.out wr.heap.size 2 (lv:=2) (A:=[0,3]) rfl rfl ZB.out
      clear yA
      go_upto_region 17 with(go_at_call 22;refine MK.out.mono ?_;rintro e w6 ⟨rfl,P6,h6⟩;have A6:=hide h6;clear h6)
      clear l1 MK ZB YB
      have Y7:Hid (Below w6.heap.size w6 (w6.alloc (.cells #[.int .i64 7] 3))):=al (Below.refl _ _) _
      have SW8:Hid (w.heap.size≤(w6.alloc (.cells #[.int .i64 7] 3)).heap.size):=Nat.le_trans A6.out.bel.size Y7.out.size
      have R7:=hide (own_below A6.out.r2 Y7.out)
      go_upto_region 13 with(at_builtin;refine wpList_append_lies _ rfl (.tmp 75) (.tmp 77) 22 rfl w.heap.size 3 i3 (.int .i64 0) 1 8 Try.underlying22 hi3 hz30 hz31 hz32 rfl (by decide) _ 3 (zC (([4,5,6,7]:List Int).take 3)) rfl R7.out ⟨w6.heap.size,0,none⟩ 1 1 [.int .i64 7] rfl rfl (one_new w6 _ _) (by simp[Value.oneCell']) (by decide) (by unfold maxLen;omega) (by omega) SW8.out _ rfl ?_;intro g8 cap8 w8 h1 h2 h3 h4;have O8:=hide h1;have G8:=hide h2;have H8:=hide h3;clear h1 h2 h3 h4)
      have FIN:=hide (A6.out.push (x:=7) Y7.out O8.out G8.out H8.out)
      go_wp2
      go_roundw
      case rel=>exact⟨4,4,by omega,rfl,rfl,some ⟨g8,0,none⟩,cap8,P6,rfl,FIN⟩
      case measure=>decide
    ·obtain rfl:k=4:=by omega
     have hpz':pz=4:=by omega
     subst hpz'
     clear hpz hk4 hlk
     obtain⟨mg,rfl⟩:∃mg,sa=some ⟨mg,0,none⟩:=by
      rcases AI.out.r2.2 with⟨_,h⟩|⟨g,_,_,e,_⟩
      ·cases h
      ·injection e with e
       exact⟨g,e⟩
     have A6:Hid (ArR w wr a S4 9 (Na.take 6) 6 P2 (.slice (some ⟨lg,0,none⟩) 2 sc) [2,3] (.slice (some ⟨mg,0,none⟩) 4 sd) [4,5,6,7]):=AI.out
     clear AI
     go_upto_region 18 with fail
     have XD:Hid (Below wr.heap.size wr wr.drew):=(Below.refl _ wr).drew
     refine wp_unt (S:=fun V=>V.cell? ⟨mg,0,none⟩=some (.int .i64 4)∧V.cell? ⟨mg,1,none⟩=some (.int .i64 5)) 13 (by kernel_rfl) ?_
     generalize wr.drew=wd at *
     have MC:Hid (∀W,Below wr.heap.size wr W→W.cell? ⟨mg,0,none⟩=some (.int .i64 4)∧W.cell? ⟨mg,1,none⟩=some (.int .i64 5)):=fun W hW=>⟨(World.ownsRow.cellAt (own_below A6.out.r2 hW) 0 (by decide)).trans rfl,(World.ownsRow.cellAt (own_below A6.out.r2 hW) 1 (by decide)).trans rfl⟩
     have HS0:=hide (MC.out wd XD.out)
     refine UntH.tk 0 rfl 80 HS0.out (fun w' ⟨q0,q1⟩=>by go_simp;first|done|rfl) ?_
     refine UntH.tk 1 rfl 81 HS0.out (fun w' ⟨q0,q1⟩=>by go_simp;first|done|rfl) ?_
     refine UntH.tk 2 rfl 82 HS0.out (fun w' ⟨q0,q1⟩=>by go_simp;first|done|rfl) ?_
     refine UntH.tk 3 rfl 83 HS0.out (fun w' ⟨q0,q1⟩=>by go_simp;first|done|rfl) ?_
     refine UntH.tk 4 rfl 84 HS0.out (fun w' ⟨q0,q1⟩=>by go_simp;first|done|rfl) ?_
     refine UntH.tk 5 rfl 85 HS0.out (fun w' ⟨q0,q1⟩=>by go_simp;first|done|rfl) ?_
     refine UntH.tk 6 rfl 86 HS0.out (fun w' ⟨q0,q1⟩=>by go_simp;first|done|rfl) ?_
     try simp only[Act.put,List.setIfInBounds_toArray,List.set_cons_zero,List.set_cons_succ]
     have yV:Below wd.heap.size wd (wd.alloc (.cells #[.int .i64 4,.int .i64 5] 3)):=al (Below.refl _ _) _
     have XV:=hide (bt XD.out yV (Nat.le_refl _))
     have HS1:=hide (MC.out _ XV.out)
     have MK:Hid (Calls Try.prog 22 #[.pointer (some ⟨a,0,none⟩),.int .i64 1,.slice (some ⟨wd.heap.size,0,none⟩) 2 2] (wd.alloc (.cells #[.int .i64 4,.int .i64 5] 3)) fun e w'=>e=.returned (.tuple #[.int .i64 8,.int .i64 0])∧∃P',ArR w w' a S4 9 (Na.take 7) 7 P' (.slice (some ⟨lg,0,none⟩) 2 sc) [2,3] (.slice (some ⟨mg,0,none⟩) 4 sd) [4,5,6,7]):=A6.out.mkNa (by decide) XV.out wd.heap.size 2 (lv:=1) (A:=[4,5]) rfl rfl (zat_new wd [4,5])
     refine UntH.step (i:=7) (by kernel_rfl) rfl (fun K hK=>?_)
     go_simp
     refine hK _ _ HS1.out ?_
     clear hK K yV
     try simp only[Act.put,List.setIfInBounds_toArray,List.set_cons_zero,List.set_cons_succ]
     refine UntH.step (i:=8) (by kernel_rfl) rfl (fun K hK=>?_)
     go_simp
     refine MK.out.mono ?_
     rintro e w7 ⟨rfl,P6,h6⟩
     have A7:=hide h6
     have HS2:Hid (w7.cell? ⟨mg,0,none⟩=some (.int .i64 4)∧w7.cell? ⟨mg,1,none⟩=some (.int .i64 5)):=⟨(World.ownsRow.cellAt h6.r2 0 (by decide)).trans rfl,(World.ownsRow.cellAt h6.r2 1 (by decide)).trans rfl⟩
     refine hK _ _ HS2.out ?_
     clear hK K h6
     try simp only[Act.put,List.setIfInBounds_toArray,List.set_cons_zero,List.set_cons_succ]
     refine UntH.tk 9 rfl 79 HS2.out (fun w' ⟨q0,q1⟩=>by go_simp;first|done|rfl) ?_
     refine UntH.tk 10 rfl 89 HS2.out (fun w' ⟨q0,q1⟩=>by go_simp;first|done|rfl) ?_
     refine UntH.tk 11 rfl 90 HS2.out (fun w' ⟨q0,q1⟩=>by go_simp;first|done|rfl) ?_
     refine UntH.tk 12 rfl 12 HS2.out (fun w' ⟨q0,q1⟩=>by go_simp;first|done|rfl) ?_
     try simp only[Act.put,List.setIfInBounds_toArray,List.set_cons_zero,List.set_cons_succ]
     refine UntH.last (by kernel_rfl) rfl (by kernel_rfl) (by kernel_rfl) (fun K hK=>?_)
     go_simp
     refine hK _ _ ?_
     clear hK K MK MC HS0 HS1 HS2 XV XD A6
     go_upto_region 19 with fail
     have XD:Hid (Below w7.heap.size w7 w7.drew):=(Below.refl _ w7).drew
     refine wp_unt (S:=fun V=>V.cell? ⟨mg,2,none⟩=some (.int .i64 6)∧V.cell? ⟨mg,3,none⟩=some (.int .i64 7)) 13 (by kernel_rfl) ?_
     generalize w7.drew=wd at *
     have MC:Hid (∀W,Below w7.heap.size w7 W→W.cell? ⟨mg,2,none⟩=some (.int .i64 6)∧W.cell? ⟨mg,3,none⟩=some (.int .i64 7)):=fun W hW=>⟨(World.ownsRow.cellAt (own_below A7.out.r2 hW) 2 (by decide)).trans rfl,(World.ownsRow.cellAt (own_below A7.out.r2 hW) 3 (by decide)).trans rfl⟩
     have HS0:=hide (MC.out wd XD.out)
     refine UntH.tk 0 rfl 92 HS0.out (fun w' ⟨q0,q1⟩=>by go_simp;first|done|rfl) ?_
     refine UntH.tk 1 rfl 93 HS0.out (fun w' ⟨q0,q1⟩=>by go_simp;first|done|rfl) ?_
     refine UntH.tk 2 rfl 94 HS0.out (fun w' ⟨q0,q1⟩=>by go_simp;first|done|rfl) ?_
     refine UntH.tk 3 rfl 95 HS0.out (fun w' ⟨q0,q1⟩=>by go_simp;first|done|rfl) ?_
     refine UntH.tk 4 rfl 96 HS0.out (fun w' ⟨q0,q1⟩=>by go_simp;first|done|rfl) ?_
     refine UntH.tk 5 rfl 97 HS0.out (fun w' ⟨q0,q1⟩=>by go_simp;first|done|rfl) ?_
     refine UntH.tk 6 rfl 98 HS0.out (fun w' ⟨q0,q1⟩=>by go_simp;first|done|rfl) ?_
     try simp only[Act.put,List.setIfInBounds_toArray,List.set_cons_zero,List.set_cons_succ]
     have yV:Below wd.heap.size wd (wd.alloc (.cells #[.int .i64 6,.int .i64 7] 3)):=al (Below.refl _ _) _
     have XV:=hide (bt XD.out yV (Nat.le_refl _))
     have HS1:=hide (MC.out _ XV.out)
     have MK:Hid (Calls Try.prog 22 #[.pointer (some ⟨a,0,none⟩),.int .i64 1,.slice (some ⟨wd.heap.size,0,none⟩) 2 2] (wd.alloc (.cells #[.int .i64 6,.int .i64 7] 3)) fun e w'=>e=.returned (.tuple #[.int .i64 9,.int .i64 0])∧∃P',ArR w w' a S4 9 (Na.take 8) 8 P' (.slice (some ⟨lg,0,none⟩) 2 sc) [2,3] (.slice (some ⟨mg,0,none⟩) 4 sd) [4,5,6,7]):=A7.out.mkNa (by decide) XV.out wd.heap.size 2 (lv:=1) (A:=[6,7]) rfl rfl (zat_new wd [6,7])
     refine UntH.step (i:=7) (by kernel_rfl) rfl (fun K hK=>?_)
     go_simp
     refine hK _ _ HS1.out ?_
     clear hK K yV
     try simp only[Act.put,List.setIfInBounds_toArray,List.set_cons_zero,List.set_cons_succ]
     refine UntH.step (i:=8) (by kernel_rfl) rfl (fun K hK=>?_)
     go_simp
     refine MK.out.mono ?_
     rintro e w8 ⟨rfl,P7,h6⟩
     have A8:=hide h6
     have HS2:Hid (w8.cell? ⟨mg,2,none⟩=some (.int .i64 6)∧w8.cell? ⟨mg,3,none⟩=some (.int .i64 7)):=⟨(World.ownsRow.cellAt h6.r2 2 (by decide)).trans rfl,(World.ownsRow.cellAt h6.r2 3 (by decide)).trans rfl⟩
     refine hK _ _ HS2.out ?_
     clear hK K h6
     try simp only[Act.put,List.setIfInBounds_toArray,List.set_cons_zero,List.set_cons_succ]
     refine UntH.tk 9 rfl 91 HS2.out (fun w' ⟨q0,q1⟩=>by go_simp;first|done|rfl) ?_
     refine UntH.tk 10 rfl 101 HS2.out (fun w' ⟨q0,q1⟩=>by go_simp;first|done|rfl) ?_
     refine UntH.tk 11 rfl 102 HS2.out (fun w' ⟨q0,q1⟩=>by go_simp;first|done|rfl) ?_
     refine UntH.tk 12 rfl 14 HS2.out (fun w' ⟨q0,q1⟩=>by go_simp;first|done|rfl) ?_
     try simp only[Act.put,List.setIfInBounds_toArray,List.set_cons_zero,List.set_cons_succ]
     refine UntH.last (by kernel_rfl) rfl (by kernel_rfl) (by kernel_rfl) (fun K hK=>?_)
     go_simp
     refine hK _ _ ?_
     clear hK K MK MC HS0 HS1 HS2 XV XD A7
     have Y9:Hid (Below w8.heap.size w8 (w8.alloc (.cells #[.int .i64 8,.int .i64 9] 3))):=al (Below.refl _ _) _
     have MK9:Hid (Calls Try.prog 22 #[.pointer (some ⟨a,0,none⟩),.int .i64 0,.slice (some ⟨w8.heap.size,0,none⟩) 2 2] (w8.alloc (.cells #[.int .i64 8,.int .i64 9] 3)) fun e w'=>e=.returned (.tuple #[.int .i64 10,.int .i64 0])∧∃P',ArR w w' a S4 9 Na 9 P' (.slice (some ⟨lg,0,none⟩) 2 sc) [2,3] (.slice (some ⟨mg,0,none⟩) 4 sd) [4,5,6,7]):=A8.out.mkNa (by decide) Y9.out w8.heap.size 2 (lv:=0) (A:=[8,9]) rfl rfl (zat_new w8 [8,9])
     go_upto_region 21 with(go_at_call 22;refine MK9.out.mono ?_;rintro e w9 ⟨rfl,P9,h9⟩;have A9:=hide h9;clear h9)
     clear MK9 Y9 A8
     have yz:∀(W:World),Below W.heap.size W ((W.alloc (.cells #[.int .i64 10] 3)).alloc (.cells #[.int .i64 0,.int .i64 2,.int .i64 1,.int .i64 3] 3)):=fun W=>al (al (Below.refl _ _) _) _
     have z1:∀(W:World),ZAt ((W.alloc (.cells #[.int .i64 10] 3)).alloc (.cells #[.int .i64 0,.int .i64 2,.int .i64 1,.int .i64 3] 3)) (some ⟨W.heap.size,0,none⟩) [10]:=fun W=>(zat_new W [10]).below (al (Below.refl _ _) _)
     have z2:∀(W:World),ZAt ((W.alloc (.cells #[.int .i64 10] 3)).alloc (.cells #[.int .i64 0,.int .i64 2,.int .i64 1,.int .i64 3] 3)) (some ⟨W.heap.size+1,0,none⟩) [0,2,1,3]:=fun W=>by
      have:=zat_new (W.alloc (.cells #[.int .i64 10] 3)) [0,2,1,3]
      rw[World.size_alloc] at this
      exact this
     have R6:=hide (reb_six (A9.out.ca.below (yz w9)) (z1 w9) (z2 w9))
     have YZ:=hide yz
     have Z1:=hide z1
     have Z2:=hide z2
     clear yz z1 z2
     go_upto_region 22 with(go_at_call 12;refine R6.out.mono ?_;rintro e w10 ⟨bb,bg,bc,PB,rfl,hz,hc,hb⟩;have ZB:=hide hz;have CB:=hide hc;have X10:=hide (bt (YZ.out w9) hb (Nat.le_refl _));clear hz hc hb)
     clear R6
     have C10:=hide (A9.out.ca.below X10.out)
     have R5:=hide (reb_five (C10.out.below (YZ.out w10)) (Z1.out w10) (Z2.out w10))
     go_upto_region 23 with(go_at_call 12;refine R5.out.mono ?_;rintro e w11 ⟨rfl,hb⟩;have X11:=hide (bt (YZ.out w10) hb (Nat.le_refl _));clear hb)
     clear R5
     have C11:=hide (C10.out.below X11.out)
     have CB11:=hide (CB.out.below X11.out)
     have ZB11:=hide (ZB.out.below X11.out)
     have Y12:Hid (Below w11.heap.size w11 (w11.alloc (.cells #[.int .i64 10] 3))):=al (Below.refl _ _) _
     have BN:=hide (best_na (C11.out.below Y12.out) (zat_new w11 [10]))
     go_upto_region 24 with(go_at_call 15;refine BN.out.mono ?_;rintro e w12 ⟨ng,rfl,hz,hb⟩;have ZN:=hide hz;have X12:=hide (bt Y12.out hb (Nat.le_refl _));clear hz hb)
     clear BN
     have Y13:Hid (Below w12.heap.size w12 (w12.alloc (.cells #[.int .i64 0,.int .i64 2,.int .i64 1,.int .i64 3] 3))):=al (Below.refl _ _) _
     have IN:Hid (Calls Try.prog 23 #[.slice (some ⟨ng,0,none⟩) 4 4,.slice (some ⟨w12.heap.size,0,none⟩) 4 4] (w12.alloc (.cells #[.int .i64 0,.int .i64 2,.int .i64 1,.int .i64 3] 3)) fun e w'=>e=.returned (.bool true)∧Below (w12.alloc (.cells #[.int .i64 0,.int .i64 2,.int .i64 1,.int .i64 3] 3)).heap.size (w12.alloc (.cells #[.int .i64 0,.int .i64 2,.int .i64 1,.int .i64 3] 3)) w'):=ints_any (some ⟨ng,0,none⟩) (some ⟨w12.heap.size,0,none⟩) 4 4 [0,2,1,3] [0,2,1,3] _ (by decide) ((ZN.out.below Y13.out).zbk.at) (zat_new w12 [0,2,1,3])
     go_upto_region 25 with(go_at_call 23;refine IN.out.mono ?_;rintro e w13 ⟨rfl,hb⟩;have X13:=hide (bt Y13.out hb (Nat.le_refl _));clear hb)
     clear IN
     have X1113:=hide (bt X12.out X13.out (Nat.le_refl _))
     have C13:=hide (C11.out.below X1113.out)
     have CB13:=hide (CB11.out.below X1113.out)
     have ZB13:=hide (ZB11.out.below X1113.out)
     have q7:w13.cell? ⟨bg,0,none⟩=some (.int .i64 7):=by rw[cell_of_row w13 _ _ _ _ _ ZB13.out];rfl
     have LA:Hid (Calls Try.prog 20 #[.pointer (some ⟨a,0,none⟩)] w13 fun e w'=>e=.returned (.int .i64 9)∧w'=w13):=C13.out.len
     have LB:Hid (Calls Try.prog 20 #[.pointer (some ⟨bb,0,none⟩)] w13 fun e w'=>e=.returned (.int .i64 6)∧w'=w13):=CB13.out.len
     have LV:Hid (Calls Try.prog 24 #[.pointer (some ⟨bb,0,none⟩),.int .i64 7] w13 fun e w'=>e=.returned (.int .i64 0)∧w'=w13):=by
      have:=CB13.out.level 7
      rw[show lvl (ledS S4 [0,2,1,3]) Nb 7=0 by decide] at this
      exact this
     have FIN:Hid (Below w.heap.size w w13):=bt (bt (bt A9.out.bel X10.out (Nat.le_refl _)) X11.out (Nat.le_refl _)) X1113.out (Nat.le_refl _)
     go_wp2_with (first
      |(go_at_call 20;refine LA.out.mono ?_;clear LA;rintro e w14 ⟨rfl,h⟩;rw[h];clear h)
      |(go_at_call 20;refine LB.out.mono ?_;clear LB;rintro e w15 ⟨rfl,h⟩;rw[h];clear h)
      |(go_at_call 24;refine LV.out.mono ?_;clear LV;rintro e w16 ⟨rfl,h⟩;rw[h];clear h))
     go_ret
     exact⟨rfl,FIN.out⟩
end Go.Proofs.Ytnddhkhmbjeefaa

