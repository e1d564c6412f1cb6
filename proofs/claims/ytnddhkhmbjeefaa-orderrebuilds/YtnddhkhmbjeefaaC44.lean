/-
  The document's opened by its contract. No condition.
-/
import Derived.Test.YtnddhkhmbjeefaaC43
namespace Go.Proofs.Ytnddhkhmbjeefaa
open Go.RowKit Go.Lib Go.Maps
section
variable {S:List Int} {w:World}
def OpL (S:List Int) (w:World) (e:Ending) (w':World):Prop:=∃s P M,e=.returned (.pointer (some ⟨s,0,none⟩))∧St w' s S [] P M∧(∀k,P k→w.heap.size≤k)∧Below w.heap.size w w'
structure OpI (w wr:World) (s:Nat) (nv:Value) (i:Nat) (V:Nat→Value) (L:Nat→List Int) (P M:Nat→Prop):Prop where
 st:StX wr s [] nv V L P M
 l1:L 1=[0,0]
 l2:L 2=List.replicate i (-1)
 l3:L 3=[-1,-1]
 new:∀k,P k→w.heap.size≤k
 bel:Below w.heap.size w wr
theorem opened_start (w:World):∃V L P M,OpI w ((((w.alloc (.cells #[.int .i64 0,.slice none 0 0,.int .i64 0,.slice none 0 0] 86)).alloc (.cells #[.int .i64 0,.int .i64 0] 3)).alloc (.cells #[.int .i64 (-1),.int .i64 (-1)] 3)).alloc (.cells #[.slice (some ⟨w.heap.size,0,none⟩) 2 2,.slice (some ⟨w.heap.size+1,0,none⟩) 2 2,.slice none 0 0,.slice (some ⟨w.heap.size+1+1,0,none⟩) 2 2] 155)) (w.heap.size+1+1+1) (.slice (some ⟨w.heap.size,0,none⟩) 2 2) 0 V L P M:=by
 have n1:=heap_alloc_new w (.cells #[.int .i64 0,.slice none 0 0,.int .i64 0,.slice none 0 0] 86)
 have x1:Below w.heap.size w (w.alloc (.cells #[.int .i64 0,.slice none 0 0,.int .i64 0,.slice none 0 0] 86)):=al (Below.refl _ _) _
 have e1:(w.alloc (.cells #[.int .i64 0,.slice none 0 0,.int .i64 0,.slice none 0 0] 86)).heap.size=w.heap.size+1:=by simp
 generalize w.alloc (.cells #[.int .i64 0,.slice none 0 0,.int .i64 0,.slice none 0 0] 86)=w1 at *
 have n2:=heap_alloc_new w1 (.cells #[.int .i64 0,.int .i64 0] 3)
 have x2:Below w1.heap.size w1 (w1.alloc (.cells #[.int .i64 0,.int .i64 0] 3)):=al (Below.refl _ _) _
 have e2:(w1.alloc (.cells #[.int .i64 0,.int .i64 0] 3)).heap.size=w1.heap.size+1:=by simp
 generalize w1.alloc (.cells #[.int .i64 0,.int .i64 0] 3)=w2 at *
 have n3:=heap_alloc_new w2 (.cells #[.int .i64 (-1),.int .i64 (-1)] 3)
 have x3:Below w2.heap.size w2 (w2.alloc (.cells #[.int .i64 (-1),.int .i64 (-1)] 3)):=al (Below.refl _ _) _
 have e3:(w2.alloc (.cells #[.int .i64 (-1),.int .i64 (-1)] 3)).heap.size=w2.heap.size+1:=by simp
 generalize w2.alloc (.cells #[.int .i64 (-1),.int .i64 (-1)] 3)=w3 at *
 have n4:=heap_alloc_new w3 (.cells #[.slice (some ⟨w.heap.size,0,none⟩) 2 2,.slice (some ⟨w.heap.size+1,0,none⟩) 2 2,.slice none 0 0,.slice (some ⟨w.heap.size+1+1,0,none⟩) 2 2] 155)
 have x4:Below w3.heap.size w3 (w3.alloc (.cells #[.slice (some ⟨w.heap.size,0,none⟩) 2 2,.slice (some ⟨w.heap.size+1,0,none⟩) 2 2,.slice none 0 0,.slice (some ⟨w.heap.size+1+1,0,none⟩) 2 2] 155)):=al (Below.refl _ _) _
 have e4:(w3.alloc (.cells #[.slice (some ⟨w.heap.size,0,none⟩) 2 2,.slice (some ⟨w.heap.size+1,0,none⟩) 2 2,.slice none 0 0,.slice (some ⟨w.heap.size+1+1,0,none⟩) 2 2] 155)).heap.size=w3.heap.size+1:=by simp
 generalize w3.alloc (.cells #[.slice (some ⟨w.heap.size,0,none⟩) 2 2,.slice (some ⟨w.heap.size+1,0,none⟩) 2 2,.slice none 0 0,.slice (some ⟨w.heap.size+1+1,0,none⟩) 2 2] 155)=w4 at *
 have y3:=x4
 have y2:=bt x3 x4 (Nat.le_refl _)
 have y1:=bt x2 y2 (Nat.le_refl _)
 rw[e1] at n2 e2
 rw[e2] at n3 e3
 rw[e3] at n4 e4
 have m1:=(y1.block _ (lt_of_block n1)).trans n1
 have m2:=(y2.block _ (lt_of_block n2)).trans n2
 have m3:=(y3.block _ (lt_of_block n3)).trans n3
 refine⟨fun j=>if j=1 then .slice (some ⟨w.heap.size+1,0,none⟩) 2 2 else if j=3 then .slice (some ⟨w.heap.size+1+1,0,none⟩) 2 2 else .slice none 0 0,fun j=>if j=1 then [0,0] else if j=3 then [-1,-1] else [],fun k=>w.heap.size≤k∧k<w4.heap.size,fun k=>w.heap.size≤k∧k<w4.heap.size,⟨n4,?_,fun j h1 h3=>?_,fun y hy=>(by cases hy),fun i j i1 i3 j1 j3 hij k hi hj=>?_,by omega,fun k hk=>?_,fun j h1 h3 k hk=>?_,fun y hy=>(by cases hy),fun k hk=>hk,fun y hy=>(by cases hy),fun k hk=>hk.2⟩,rfl,rfl,rfl,fun k hk=>hk.1,bt x1 y1 (Nat.le_refl _)⟩
 ·exact⟨rfl,.inr ⟨_,2,_,rfl,Nat.zero_le _,m1,Nat.le_refl _,by decide,rfl,rfl⟩⟩
 ·rcases (show j=1∨j=2∨j=3 by omega) with rfl|rfl|rfl
  ·exact⟨rfl,.inr ⟨_,2,_,rfl,Nat.zero_le _,m2,Nat.le_refl _,by decide,rfl,rfl⟩⟩
  ·exact World.ownsRow_nil _ _ _ _
  ·exact⟨rfl,.inr ⟨_,2,_,rfl,Nat.zero_le _,m3,Nat.le_refl _,by decide,rfl,rfl⟩⟩
 ·rcases (show i=1∨i=2∨i=3 by omega) with rfl|rfl|rfl<;>rcases (show j=1∨j=2∨j=3 by omega) with rfl|rfl|rfl<;>simp[Value.ownBlock] at hi hj hij<;>omega
 ·have:w.heap.size=k:=Option.some.inj hk
  omega
 ·rcases (show j=1∨j=2∨j=3 by omega) with rfl|rfl|rfl<;>simp[Value.ownBlock] at hk<;>omega
set_option maxRecDepth 100000 in
set_option maxHeartbeats 4000000 in
theorem opened_any (hS:SzOk S):Calls Try.prog 77 #[] w fun e w'=>OpL S w e w':=by
 obtain⟨i3,hi3,hz30,hz31,hz32⟩:=info_parts Try.info3
 obtain⟨V0,L0,P0,M0,ST0⟩:=opened_start w
 go_enter Try.func77,Try.ntmps77
 go_upto_block 0 with fail
 generalize (((w.alloc (.cells #[.int .i64 0,.slice none 0 0,.int .i64 0,.slice none 0 0] 86)).alloc (.cells #[.int .i64 0,.int .i64 0] 3)).alloc (.cells #[.int .i64 (-1),.int .i64 (-1)] 3)).alloc (.cells #[.slice (some ⟨w.heap.size,0,none⟩) 2 2,.slice (some ⟨w.heap.size+1,0,none⟩) 2 2,.slice none 0 0,.slice (some ⟨w.heap.size+1+1,0,none⟩) 2 2] 155)=w4 at *
 replace ST0:=hide ST0
 generalize Value.slice (some ⟨w.heap.size,0,none⟩) 2 2=nv at *
 generalize w.heap.size+1+1+1=s at *
 go_wp2
 go_loopw [2] (fun v2 wr=>∃i:Nat,v2=.int .i64 (i:Int)∧i≤16384∧∃V L P M,Hid (OpI w wr s nv i V L P M)) (fun v _=>16384-(RowKit.intOf v).toNat)
 case atStart=>exact⟨0,rfl,Nat.zero_le _,V0,L0,P0,M0,ST0⟩
 case round=>
  obtain⟨i,rfl,hi,V,L,P,M,HI⟩:=hrel
  clear ST0
  have c2:=HI.out.st.cells.2.2.1
  obtain⟨ao,cap,hv,_⟩:=own_shape (HI.out.st.row 2 (by decide) (by decide))
  rw[HI.out.l2,List.length_replicate] at hv
  rw[hv] at c2
  have HV:=hide hv
  clear hv
  by_cases hlt:i<16384
  ·have hlt':(i:Int)<16384:=by omega
   have YY:Hid (Below wr.heap.size wr (wr.alloc (.cells #[.int .i64 (-1)] 3))):=al (Below.refl _ _) _
   have ROW:Hid ((wr.alloc (.cells #[.int .i64 (-1)] 3)).ownsRow 0 3 1 (.slice ao i cap) i (zC (List.replicate i (-1)))):=by
    have:=own_below (HI.out.st.row 2 (by decide) (by decide)) YY.out
    rw[HV.out,HI.out.l2,List.length_replicate] at this
    exact this
   have HSN:Hid ((Value.slice ao i cap).ownBlock≠some s):=fun e=>by
    obtain⟨cs,h5⟩:=own_ty (HI.out.st.row 2 (by decide) (by decide)) s (by rw[HV.out];exact e)
    exact blocks_ne HI.out.st.blk h5 (by decide) rfl
   go_upto_region 4 with(at_builtin;refine wpList_append_lies _ rfl (.tmp 18) (.tmp 19) 22 rfl 0 3 i3 (.int .i64 0) 1 8 Try.underlying22 hi3 hz30 hz31 hz32 rfl (by decide) _ i (zC (List.replicate i (-1))) rfl ROW.out ⟨wr.heap.size,0,none⟩ 1 1 [.int .i64 (-1)] rfl rfl (one_new wr _ _) (by simp[Value.oneCell']) (by decide) (by unfold maxLen;omega) (by omega) (Nat.zero_le _) _ rfl ?_;intro g9 cap9 w9 h1 h2 h3 h4;have O9:=hide h1;have K9:=hide ((Kept.of_below (F:=fun k=>(Value.slice ao i cap).ownBlock=some k) YY.out).trans_new (kept_of_grown h2) (fun _ _ h=>h));have H9:=hide h3;have hb9:=(K9.out.block s (lt_of_block HI.out.st.blk) (fun e=>HSN.out e)).trans HI.out.st.blk;have c9:=cell_of_row w9 s 2 _ _ _ hb9;have f9:=frozen_of_row w9 s 2 _ _ hb9;clear h1 h2 h3 h4 hb9)
   have AD:=HI.out.st.setJ (j:=2) (v':=.slice (some ⟨g9,0,none⟩) (i+1) cap9) (l':=List.replicate (i+1) (-1)) (by decide) (by decide) (by rw[HV.out];exact K9.out) (by
    have:=O9.out
    rw[show zC (List.replicate i (-1:Int))++[Value.int .i64 (-1)]=zC (List.replicate (i+1) (-1)) by rw[List.replicate_succ'];simp[zC]] at this
    rw[List.length_replicate]
    exact this) (fun k hk=>by
    have e:g9=k:=Option.some.inj hk
    rw[HV.out]
    rcases H9.out with h|h
    ·exact .inl (by rw[←e];exact h)
    ·exact .inr (by rw[←e,h];exact YY.out.size))
   have BB:Hid (Below w.heap.size w (w9.setCell ⟨s,2,none⟩ (.slice (some ⟨g9,0,none⟩) (i+1) cap9))):=HI.out.bel.trans (AD.2.below HI.out.bel.size (fun k hk=>by
    rcases hk with hk|hk
    ·exact HI.out.new k (HI.out.st.mp k (HI.out.st.pv 2 (by decide) (by decide) k hk))
    ·rw[hk];exact HI.out.new s (HI.out.st.mp s HI.out.st.ps)))
   have HN:Hid (∀k,(Value.slice (some ⟨g9,0,none⟩) (i+1) cap9).ownBlock=some k→w.heap.size≤k):=fun k hk=>by
    have e:g9=k:=Option.some.inj hk
    rcases H9.out with h|h
    ·exact HI.out.new k (HI.out.st.mp k (HI.out.st.pv 2 (by decide) (by decide) k (by rw[HV.out,←e];exact h)))
    ·have h5:=YY.out.size
     have h6:=HI.out.bel.size
     rw[←e,h]
     omega
   have FIN:Hid (OpI w (w9.setCell ⟨s,2,none⟩ (.slice (some ⟨g9,0,none⟩) (i+1) cap9)) s nv (i+1) _ _ _ _):=⟨AD.1,HI.out.l1,rfl,HI.out.l3,fun k hk=>by
    rcases hk with hk|hk
    ·exact HI.out.new k hk
    ·exact HN.out k hk,BB.out⟩
   clear c9 f9 c2 AD O9 K9 BB ROW YY HN
   go_wp2
   go_roundw
   case rel=>exact⟨i+1,by go_num,by omega,_,_,_,_,FIN⟩
   case measure=>simp[RowKit.intOf];omega
  ·have hlt':¬(i:Int)<16384:=by omega
   have e:i=16384:=by omega
   have H2:Hid (L 2=List.replicate 16384 (-1)):=by unfold Hid;rw[HI.out.l2,e]
   clear e c2
   go_wp2
   go_ret
   refine⟨s,P,M,rfl,⟨[],nv,V,L,HI.out.st,rfl,⟨hS,by decide,by decide,by decide,List.nodup_nil,fun i h=>by simp at h⟩,?_,?_⟩,HI.out.new,HI.out.bel⟩
   ·rw[HI.out.l1];exact AskOk.nil
   ·rw[HI.out.l3];exact HashOk.nil H2.out
end
structure BuX (w:World) (b s:Nat) (sz od:Value) (most:Int) (ov av:Value) (n2:Nat) (xs:List Value) (AT:List Int) (bg:Int) (ovr:Bool) (Q QM:Nat→Prop):Prop where
 blk:w.heap[b]? =some (.cells #[.pointer (some ⟨s,0,none⟩),sz,od,.int .i64 most,ov,av,.int .i64 bg,.bool ovr] 145 (0,0))
 out:w.ownsRow 0 86 2 ov n2 xs
 atr:w.ownsRow 0 3 1 av AT.length (zC AT)
 qb:QM b
 qo:∀k,ov.ownBlock=some k→QM k
 qa:∀k,av.ownBlock=some k→QM k
 qp:∀k,QM k→Q k
 qlt:∀k,Q k→k<w.heap.size
section
variable {w w' w2:World} {b s n2 n3:Nat} {sz od ov av v':Value} {most bg:Int} {xs xs':List Value} {AT AT':List Int} {ovr:Bool} {Q QM F:Nat→Prop}
theorem BuX.kept (h:BuX w b s sz od most ov av n2 xs AT bg ovr Q QM) (hk:Kept F w w') (hF:∀k,Q k→¬F k):BuX w' b s sz od most ov av n2 xs AT bg ovr Q QM:=
 ⟨(hk.block b (h.qlt b (h.qp b h.qb)) (hF b (h.qp b h.qb))).trans h.blk,own_kept h.out hk (fun k hb=>hF k (h.qp k (h.qo k hb))),own_kept h.atr hk (fun k hb=>hF k (h.qp k (h.qa k hb))),h.qb,h.qo,h.qa,h.qp,fun k hq=>Nat.lt_of_lt_of_le (h.qlt k hq) hk.size⟩
theorem BuX.below (h:BuX w b s sz od most ov av n2 xs AT bg ovr Q QM) (y:Below w.heap.size w w'):BuX w' b s sz od most ov av n2 xs AT bg ovr Q QM:=h.kept (F:=fun _=>False) (Kept.of_below y) (fun _ _ h=>h)
theorem BuX.cells (h:BuX w b s sz od most ov av n2 xs AT bg ovr Q QM):w.cell? ⟨b,0,none⟩=some (.pointer (some ⟨s,0,none⟩))∧w.cell? ⟨b,1,none⟩=some sz∧w.cell? ⟨b,2,none⟩=some od∧w.cell? ⟨b,3,none⟩=some (.int .i64 most)∧w.cell? ⟨b,4,none⟩=some ov∧w.cell? ⟨b,5,none⟩=some av∧w.cell? ⟨b,6,none⟩=some (.int .i64 bg)∧w.cell? ⟨b,7,none⟩=some (.bool ovr):=by
 refine⟨?_,?_,?_,?_,?_,?_,?_,?_⟩<;>(rw[cell_of_row w b _ _ _ _ h.blk];rfl)
theorem BuX.fro (h:BuX w b s sz od most ov av n2 xs AT bg ovr Q QM) (j:Nat):w.frozen? ⟨b,j,none⟩=false:=frozen_of_row w b j _ _ h.blk
theorem BuX.nb (h:BuX w b s sz od most ov av n2 xs AT bg ovr Q QM):¬ov.ownBlock=some b∧¬av.ownBlock=some b∧∀k,ov.ownBlock=some k→¬av.ownBlock=some k:=by
 refine⟨fun e=>?_,fun e=>?_,fun k e1 e2=>?_⟩
 ·obtain⟨cs,h5⟩:=own_ty h.out _ e
  exact blocks_ne h.blk h5 (by decide) rfl
 ·obtain⟨cs,h5⟩:=own_ty h.atr _ e
  exact blocks_ne h.blk h5 (by decide) rfl
 ·obtain⟨cs,h5⟩:=own_ty h.out _ e1
  obtain⟨cs',h6⟩:=own_ty h.atr _ e2
  exact blocks_ne h5 h6 (by decide) rfl
theorem BuX.setG (h:BuX w b s sz od most ov av n2 xs AT bg ovr Q QM) (g:Int):BuX (w.setCell ⟨b,6,none⟩ (.int .i64 g)) b s sz od most ov av n2 xs AT g ovr Q QM∧Kept (fun k=>k=b) w (w.setCell ⟨b,6,none⟩ (.int .i64 g)):=by
 have k3:Kept (fun k=>k=b) w (w.setCell ⟨b,6,none⟩ (.int .i64 g)):=Kept.setCell (F:=fun k=>k=b) (p:=⟨b,6,none⟩) (Kept.refl _ _) rfl _
 obtain⟨n0,n1,_⟩:=h.nb
 exact⟨⟨by rw[block_setCell h.blk 6];rfl,own_kept h.out k3 (fun k hk hF=>n0 (by rw[←hF];exact hk)),own_kept h.atr k3 (fun k hk hF=>n1 (by rw[←hF];exact hk)),h.qb,h.qo,h.qa,h.qp,fun k hq=>Nat.lt_of_lt_of_le (h.qlt k hq) k3.size⟩,k3⟩
theorem BuX.setO (h:BuX w b s sz od most ov av n2 xs AT bg ovr Q QM) (g:Bool):BuX (w.setCell ⟨b,7,none⟩ (.bool g)) b s sz od most ov av n2 xs AT bg g Q QM∧Kept (fun k=>k=b) w (w.setCell ⟨b,7,none⟩ (.bool g)):=by
 have k3:Kept (fun k=>k=b) w (w.setCell ⟨b,7,none⟩ (.bool g)):=Kept.setCell (F:=fun k=>k=b) (p:=⟨b,7,none⟩) (Kept.refl _ _) rfl _
 obtain⟨n0,n1,_⟩:=h.nb
 exact⟨⟨by rw[block_setCell h.blk 7];rfl,own_kept h.out k3 (fun k hk hF=>n0 (by rw[←hF];exact hk)),own_kept h.atr k3 (fun k hk hF=>n1 (by rw[←hF];exact hk)),h.qb,h.qo,h.qa,h.qp,fun k hq=>Nat.lt_of_lt_of_le (h.qlt k hq) k3.size⟩,k3⟩
theorem BuX.setA (h:BuX w b s sz od most ov av n2 xs AT bg ovr Q QM) (k2:Kept (fun k=>av.ownBlock=some k) w w2) (hr:w2.ownsRow 0 3 1 v' AT'.length (zC AT')) (hn:∀k,v'.ownBlock=some k→av.ownBlock=some k∨w.heap.size≤k):
 BuX (w2.setCell ⟨b,5,none⟩ v') b s sz od most ov v' n2 xs AT' bg ovr (fun k=>Q k∨v'.ownBlock=some k) (fun k=>QM k∨v'.ownBlock=some k)∧Kept (fun k=>av.ownBlock=some k∨k=b) w (w2.setCell ⟨b,5,none⟩ v'):=by
 have k3:Kept (fun k=>k=b) w2 (w2.setCell ⟨b,5,none⟩ v'):=Kept.setCell (F:=fun k=>k=b) (p:=⟨b,5,none⟩) (Kept.refl _ _) rfl _
 obtain⟨n0,n1,n4⟩:=h.nb
 have kk:Kept (fun k=>av.ownBlock=some k∨k=b) w (w2.setCell ⟨b,5,none⟩ v'):=(k2.mono (fun _ h=>.inl h)).trans (k3.mono (fun _ h=>.inr h))
 have hb2:=(k2.block b (lt_of_block h.blk) n1).trans h.blk
 have hlt:=lt_of_block h.blk
 refine⟨⟨by rw[block_setCell hb2 5];rfl,own_kept h.out kk (fun k hk hF=>?_),own_kept hr k3 (fun k hk hF=>?_),.inl h.qb,fun k hk=>.inl (h.qo k hk),fun k hk=>.inr hk,fun k hk=>hk.imp (h.qp k) id,fun k hq=>?_⟩,kk⟩
 ·rcases hF with hF|hF
  ·exact n4 k hk hF
  ·exact n0 (by rw[←hF];exact hk)
 ·subst hF
  rcases hn _ hk with h5|h5
  ·exact n1 h5
  ·omega
 ·rcases hq with hq|hq
  ·exact Nat.lt_of_lt_of_le (h.qlt k hq) kk.size
  ·exact Nat.lt_of_lt_of_le (World.ownsRow.lt hr k hq).2 k3.size
theorem BuX.setN (h:BuX w b s sz od most ov av n2 xs AT bg ovr Q QM) (k2:Kept (fun k=>ov.ownBlock=some k) w w2) (hr:w2.ownsRow 0 86 2 v' n3 xs') (hn:∀k,v'.ownBlock=some k→ov.ownBlock=some k∨w.heap.size≤k):
 BuX (w2.setCell ⟨b,4,none⟩ v') b s sz od most v' av n3 xs' AT bg ovr (fun k=>Q k∨v'.ownBlock=some k) (fun k=>QM k∨v'.ownBlock=some k)∧Kept (fun k=>ov.ownBlock=some k∨k=b) w (w2.setCell ⟨b,4,none⟩ v'):=by
 have k3:Kept (fun k=>k=b) w2 (w2.setCell ⟨b,4,none⟩ v'):=Kept.setCell (F:=fun k=>k=b) (p:=⟨b,4,none⟩) (Kept.refl _ _) rfl _
 obtain⟨n0,n1,n4⟩:=h.nb
 have kk:Kept (fun k=>ov.ownBlock=some k∨k=b) w (w2.setCell ⟨b,4,none⟩ v'):=(k2.mono (fun _ h=>.inl h)).trans (k3.mono (fun _ h=>.inr h))
 have hb2:=(k2.block b (lt_of_block h.blk) n0).trans h.blk
 have hlt:=lt_of_block h.blk
 refine⟨⟨by rw[block_setCell hb2 4];rfl,own_kept hr k3 (fun k hk hF=>?_),own_kept h.atr kk (fun k hk hF=>?_),.inl h.qb,fun k hk=>.inr hk,fun k hk=>.inl (h.qa k hk),fun k hk=>hk.imp (h.qp k) id,fun k hq=>?_⟩,kk⟩
 ·subst hF
  rcases hn _ hk with h5|h5
  ·exact n0 h5
  ·omega
 ·rcases hF with hF|hF
  ·exact n4 k hF hk
  ·exact n1 (by rw[←hF];exact hk)
 ·rcases hq with hq|hq
  ·exact Nat.lt_of_lt_of_le (h.qlt k hq) kk.size
  ·exact Nat.lt_of_lt_of_le (World.ownsRow.lt hr k hq).2 k3.size
theorem BuX.putA {g c:Nat} (h:BuX w b s sz od most ov av n2 xs AT bg ovr Q QM) (hv:av=.slice (some ⟨g,0,none⟩) AT.length c) (i:Nat) (x:Int):
 BuX (w.setCell ⟨g,i,none⟩ (.int .i64 x)) b s sz od most ov av n2 xs (AT.set i x) bg ovr Q QM∧Kept (fun k=>k=g) w (w.setCell ⟨g,i,none⟩ (.int .i64 x)):=by
 have k3:Kept (fun k=>k=g) w (w.setCell ⟨g,i,none⟩ (.int .i64 x)):=Kept.setCell (F:=fun k=>k=g) (p:=⟨g,i,none⟩) (Kept.refl _ _) rfl _
 have hg:av.ownBlock=some g:=by rw[hv];rfl
 obtain⟨n0,n1,n4⟩:=h.nb
 have hr:=h.atr
 refine⟨⟨(k3.block b (lt_of_block h.blk) (fun e=>n1 (by rw[e];exact hg))).trans h.blk,own_kept h.out k3 (fun k hk hF=>n4 k hk (by rw[hF];exact hg)),?_,h.qb,h.qo,h.qa,h.qp,fun k hq=>Nat.lt_of_lt_of_le (h.qlt k hq) k3.size⟩,k3⟩
 rw[hv] at hr ⊢
 rw[List.length_set,show zC (AT.set i x)=(zC AT).set i (.int .i64 x) by simp[zC,List.map_set]]
 exact(World.ownsRow.stored hr i (.int .i64 x)).1
end
theorem bit_one (m lv:Nat) (hm:m<4096):bits BinOp.and IntKind.i64 ((m:Int)/2^lv) 1=if m.testBit lv=true then 1 else 0:=by
 have e:(m:Int)/2^lv=((m/2^lv:Nat):Int):=by simp
 have hle:m/2^lv≤m:=Nat.div_le_self _ _
 rw[e,Nat.testBit_eq_decide_div_mod_eq]
 generalize m/2^lv=z at *
 have:=bits_mask .i64 63 (by decide) (fun n h0 h1=>by simp[IntKind.wrap,IntKind.bits,IntKind.signed];omega) 1 (by decide) (z:Int) (by omega) (by omega)
 have h2:bits BinOp.and IntKind.i64 (z:Int) 1=((z%2:Nat):Int):=by simpa using this
 rw[h2]
 by_cases h:z%2=1
 ·rw[h];simp
 ·have:z%2=0:=by omega
  rw[this];simp
section
variable {S o:List Int} {D:List Nd} {P M Q QM:Nat→Prop} {w:World} {b s n2 oc f i0:Nat} {oo:Option Addr} {sz ov av:Value} {most bg:Int} {xs:List Value} {AT:List Int} {ovr:Bool}
set_option maxRecDepth 100000 in
set_option maxHeartbeats 4000000 in
theorem levD_any (h:St w s S D P M) (hb:BuX w b s sz (.slice oo o.length oc) most ov av n2 xs AT bg ovr Q QM) (hz:ZAt w oo o) (ho:IsOrd S o) (hf:f<D.length+2) (hl:D.length≤1649267441664) (hi:i0<o.length) (hd:Dpd S D (f:Int) (o[i0]).toNat) (hno:∀k (hk:k<o.length),k<i0→¬Dpd S D (f:Int) (o[k]).toNat):
 Calls Try.prog 86 #[.pointer (some ⟨b,0,none⟩),.int .i64 (f:Int)] w fun e w'=>e=.returned (.int .i64 (i0:Int))∧Below w.heap.size w w':=by
 have hS12:=h.ok.sz.le
 obtain⟨R,nv,V,L,hx,hD,ok,hask,hhash⟩:=h
 obtain⟨_,hsh⟩:=hx.shape (fun j h1 h3=>by
  rcases (show j=1∨j=2∨j=3 by omega) with rfl|rfl|rfl
  ·rw[hask.al];omega
  ·rw[hhash.hl];omega
  ·rw[hhash.xl];omega)
 obtain⟨ag,ac,hv1⟩:=hsh 1 (by decide) (by decide)
 obtain⟨m,a1,a2,a3⟩:=hask.at' f hf
 have RC:Hid (∀W,Below w.heap.size w W→W.cell? ⟨b,0,none⟩=some (.pointer (some ⟨s,0,none⟩))∧W.cell? ⟨b,2,none⟩=some (.slice oo o.length oc)∧W.cell? ⟨s,1,none⟩=some (.slice (some ⟨ag,0,none⟩) (L 1).length ac)∧W.cell? ⟨ag,f,none⟩=some (.int .i64 (m:Int))):=fun W hW=>by
  obtain⟨b0,_,b2,_⟩:=(hb.below hW).cells
  have s1:=(hx.below hW).cells.2.1
  have q:=(hx.below hW).num (j:=1) (by decide) (by decide) hv1 rfl (i:=f) (by rw[hask.al];exact hf)
  rw[a1] at q
  rw[hv1] at s1
  exact⟨b0,b2,s1,q⟩
 have hfl:f<(L 1).length:=by rw[hask.al];exact hf
 have hfl':(f:Int)<((L 1).length:Int):=by omega
 have HA3:=hide a3
 have HZ:=hide hz
 have HO:=hide ho
 have HD:=hide hd
 have HNO:=hide hno
 have ho12:o.length≤12:=by have:=ho.len;omega
 generalize (L 1).length=aln at *
 clear hx hD ok hask hhash hsh hv1 a1 a3 hz ho hd hno hb hf hfl
 go_enter Try.func86,Try.ntmps86
 go_wp2
 go_loopw [5] (fun v5 wr=>∃i:Nat,i≤i0∧v5=.int .i64 (i:Int)∧Hid (Below w.heap.size w wr)) (fun v _=>i0-(RowKit.intOf v).toNat)
 case atStart=>exact⟨0,Nat.zero_le _,rfl,Below.refl _ _⟩
 case round=>
  obtain⟨i,hii,rfl,BL⟩:=hrel
  have hlt:i<o.length:=by omega
  have hlt':(i:Int)<(o.length:Int):=by omega
  obtain⟨q0,q2,q3,q4⟩:=RC.out wr BL.out
  obtain⟨zb,zo,hza,hzb,q5⟩:=(HZ.out.below BL.out).get hlt
  subst hza
  rw[show o.getD i 0=o[i] by rw[List.getD_eq_getElem?_getD,List.getElem?_eq_getElem hlt];rfl] at q5
  have hr:=HO.out.rng _ (List.getElem_mem hlt)
  obtain⟨lv,hlv⟩:∃lv:Nat,o[i]=(lv:Int):=⟨(o[i]).toNat,by omega⟩
  have hbit:=HA3.out lv
  have hba:=bit_one m lv a2
  have HN:=HNO.out i hlt
  rw[hlv] at q5 HN hr
  rw[Int.toNat_natCast] at HN
  have hlv0:(0:Int)≤(lv:Int):=by omega
  have hlv1:(lv:Int)≤64:=by omega
  by_cases hi2:i<i0
  ·have:¬m.testBit lv=true:=fun e=>HN hi2 (hbit.1 e)
   rw[if_neg this] at hba
   clear this HN hbit hlv hr
   go_wp2
   go_quiet (fail)
   go_wp2
   go_roundw
   case rel=>exact⟨i+1,by omega,by go_num,below_drewN BL.out _⟩
   case measure=>simp[RowKit.intOf];omega
  ·have e:i=i0:=by omega
   subst e
   have hd:=HD.out
   rw[hlv,Int.toNat_natCast] at hd
   rw[if_pos (hbit.2 hd)] at hba
   clear HN hbit hlv hd hr
   go_wp2
   go_quiet (fail)
   go_wp2
   go_ret
   exact⟨rfl,below_drewN BL.out _⟩
end
abbrev newF (o:List Int) (D:List Nd) (f:Int):Phi:=ledF o (fun p=>sayR D p f)
structure AtOk (S o:List Int) (D N:List Nd) (AT:List Int):Prop where
 lo:AT.length≤D.length+2
 rep:∀f:Nat,f<AT.length→AT.getD f 0=0∨(2≤AT.getD f 0∧Rep (ledS S o) N (newF o D (f:Int)) (AT.getD f 0))
 all:∀r:Int,2≤r→hasR N r→∃f:Nat,f<AT.length∧AT.getD f 0=r
section
variable {S o:List Int} {D T N N1:List Nd} {AT:List Int} {φ ψ:Phi} {f i c:Nat} {most:Int}
theorem led_pre (ho:IsOrd S o) {p:Nat→Nat} (hp:Pnt S p):Pnt (ledS S o) (fun k=>p ((o.getD k 0).toNat))∧∀k,k<S.length→ledP o (fun k=>p ((o.getD k 0).toNat)) k=p k:=by
 refine⟨fun k hk=>?_,fun k hk=>?_⟩
 ·rw[ledS_length ho,←ho.len] at hk
  have hr:=ho.rng _ (List.getElem_mem hk)
  rw[ledS_at (List.getElem?_eq_getElem hk)]
  show((p ((o.getD k 0).toNat):Nat):Int)<_
  rw[List.getD_eq_getElem?_getD,List.getElem?_eq_getElem hk]
  exact hp _ (by show(o[k]).toNat<_;omega)
 ·have hm:=ho.mem hk
  unfold ledP
  show p ((o.getD (posO o (k:Int)) 0).toNat)=p k
  rw[List.getD_eq_getElem?_getD,posO_get hm]
  simp
theorem alike_back (ho:IsOrd S o) (hg:Hang S φ 0) (hg2:Hang S ψ 0) (h:∀p,Pnt (ledS S o) p→ledF o φ p=ledF o ψ p):∀p,Pnt S p→φ p=ψ p:=fun p hp=>by
 obtain⟨h1,h2⟩:=led_pre ho hp
 rw[←hg _ p (led_pnt ho h1) hp (fun j _ hj=>h2 j hj),←hg2 _ p (led_pnt ho h1) hp (fun j _ hj=>h2 j hj)]
 exact h _ h1
theorem say0 (h:Ok S MB D) {g:Int} (hf:hasR D g):Hang S (fun p=>sayR D p g) 0:=say_hang h _ _ (Nat.le_refl _) hf 0 (h.lvl_le hf).1
theorem first_dep (ho:IsOrd S o) (h:Ok S MB D) (h2:2≤f) (hf:f<D.length+2):∃i,∃hi:i<o.length,Dpd S D (f:Int) (o[i]).toNat∧∀k (hk:k<o.length),k<i→¬Dpd S D (f:Int) (o[k]).toNat:=by
 obtain⟨l,hl⟩:=dep_some h (f:=(f:Int)) (by omega) (by omega)
 have hm:=ho.mem hl.lt
 have key:∀n,(∃i,∃hi:i<o.length,i≤n∧Dpd S D (f:Int) (o[i]).toNat)→∃i,∃hi:i<o.length,Dpd S D (f:Int) (o[i]).toNat∧∀k (hk:k<o.length),k<i→¬Dpd S D (f:Int) (o[k]).toNat:=by
  intro n
  induction n with
  |zero=>
   rintro⟨i,hi,h0,hd⟩
   exact⟨i,hi,hd,fun k hk hki=>by omega⟩
  |succ n ih=>
   rintro⟨i,hi,h0,hd⟩
   by_cases hx:∃k,∃hk:k<o.length,k<i∧Dpd S D (f:Int) (o[k]).toNat
   ·obtain⟨k,hk,hki,hdk⟩:=hx
    exact ih ⟨k,hk,by omega,hdk⟩
   ·exact⟨i,hi,hd,fun k hk hki hdk=>hx ⟨k,hk,hki,hdk⟩⟩
 refine key (posO o (l:Int)) ⟨posO o (l:Int),posO_lt hm,Nat.le_refl _,?_⟩
 have:=posO_get hm
 rw[List.getElem?_eq_getElem (posO_lt hm)] at this
 have e:=Option.some.inj this
 rw[e]
 exact hl
theorem AtOk.norep (ho:IsOrd S o) (h:Ok S MB D) (a:AtOk S o D N AT) (h2:2≤f) (hf:f<D.length+2) (h0:AT.getD f 0=0):¬ ∃r,Rep (ledS S o) N (newF o D (f:Int)) r:=by
 rintro⟨r,hr,hs⟩
 by_cases r2:2≤r
 ·obtain⟨f',hf',e⟩:=a.all r r2 hr
  rcases a.rep f' hf' with h1|⟨_,h1⟩
  ·omega
  ·rw[e] at h1
   have hD':hasR D (f':Int):=⟨by omega,by have:=a.lo;omega⟩
   have hD:hasR D (f:Int):=⟨by omega,by omega⟩
   have:=h.canon hD hD' (alike_back ho (say0 h hD) (say0 h hD') (fun p hp=>(hs p hp).symm.trans (h1.2 p hp)))
   have e2:f=f':=by omega
   subst e2
   omega
 ·obtain⟨i,hi,hd,_⟩:=first_dep ho h h2 hf
  have hD:hasR D (f:Int):=⟨by omega,by omega⟩
  obtain⟨p,c,hp,hc,hne⟩:=asks_new ho (say0 h hD) hi hd
  refine hne ?_
  show newF o D (f:Int) (upd p i c)=newF o D (f:Int) p
  have a1:=hs _ (hp.upd hc)
  have a2:=hs _ hp
  rw[sayR_low r2] at a1 a2
  exact a1.symm.trans a2
theorem AtOk.app (ho:IsOrd S o) (h:Ok S MB D) (a:AtOk S o D N AT):AtOk S o (D++T) N AT:=⟨by have:=a.lo;rw[List.length_append];omega,fun f hf=>by
 rcases a.rep f hf with h0|⟨h2,hr⟩
 ·exact .inl h0
 ·exact .inr ⟨h2,hr.alike (fun p hp=>(sayR_app h (led_pnt ho hp) ⟨by omega,by have:=a.lo;omega⟩).symm)⟩,a.all⟩
theorem AtOk.more (a:AtOk S o D N AT) (hl:AT.length<D.length+2):AtOk S o D N (AT++[0]):=⟨by rw[List.length_append,List.length_singleton];omega,fun f hf=>by
 rcases Nat.lt_or_ge f AT.length with h|h
 ·rw[getD_left h];exact a.rep f h
 ·rw[List.length_append,List.length_singleton] at hf
  rw[getD_snoc (by omega)]
  exact .inl rfl,fun r h2 hr=>by
 obtain⟨f,hf,e⟩:=a.all r h2 hr
 exact⟨f,by rw[List.length_append];omega,by rw[getD_left hf];exact e⟩⟩
theorem AtOk.set (hN:Ok (ledS S o) most N) (a:AtOk S o D N AT) {x:Nd} (hf:f<AT.length) (hn:¬ ∃r,Rep (ledS S o) N (newF o D (f:Int)) r) (hr:Rep (ledS S o) (N++[x]) (newF o D (f:Int)) ((N.length:Int)+2)):AtOk S o D (N++[x]) (AT.set f ((N.length:Int)+2)):=by
 have h0:AT.getD f 0=0:=by
  rcases a.rep f hf with h|⟨_,h⟩
  ·exact h
  ·exact absurd ⟨_,h⟩ hn
 refine⟨by rw[List.length_set];exact a.lo,fun f' hf'=>?_,fun r h2 hr2=>?_⟩
 ·rw[List.length_set] at hf'
  by_cases e:f=f'
  ·subst e
   rw[getD_here hf]
   exact .inr ⟨by omega,hr⟩
  ·rw[getD_else e]
   rcases a.rep f' hf' with h|⟨h3,h⟩
   ·exact .inl h
   ·exact .inr ⟨h3,Rep.app hN h⟩
 ·by_cases e:r=(N.length:Int)+2
  ·exact⟨f,by rw[List.length_set];exact hf,by rw[getD_here hf,e]⟩
  ·obtain⟨f',hf',e'⟩:=a.all r h2 ⟨hr2.1,by have:=hr2.2;rw[List.length_append,List.length_singleton] at this;omega⟩
   have hne:f≠f':=fun x=>by subst x;omega
   exact⟨f',by rw[List.length_set];exact hf',by rw[getD_else hne];exact e'⟩
theorem dep_cut {l j:Nat} {g:Int} (hcl:(c:Int)<S.getD l 0) (a:RepC S D l c (f:Int) g) (hj:j=l∨¬Dpd S D (f:Int) j):¬Dpd S D g j:=by
 rintro⟨p,x,hp,hx,hne⟩
 refine hne ?_
 show sayR D (upd p j x) g=sayR D p g
 rw[a.2 _ (hp.upd hx),a.2 _ hp]
 show sayR D (upd (upd p j x) l c) (f:Int)=sayR D (upd p l c) (f:Int)
 rcases hj with rfl|hj
 ·rw[upd_twice]
 ·by_cases e:j=l
  ·subst e;rw[upd_twice]
  ·rw[upd_comm p e]
   by_cases e2:sayR D (upd (upd p l c) j x) (f:Int)=sayR D (upd p l c) (f:Int)
   ·exact e2
   ·exact absurd ⟨upd p l c,x,hp.upd hcl,hx,e2⟩ hj
theorem new_cut (ho:IsOrd S o) (hi:i<o.length) {g:Int} (a:RepC S D (o[i]).toNat c (f:Int) g):Alike (ledS S o) (cutP (newF o D (f:Int)) i c) (newF o D g):=fun p hp=>by
 rw[cut_led ho hi]
 exact(a.2 _ (led_pnt ho hp)).symm
end
end Go.Proofs.Ytnddhkhmbjeefaa

