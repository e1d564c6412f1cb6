/-
  slices.AppendSeq and slices.Collect of diagrams by their contract, whatever the iterator. No condition.
-/
import Derived.Test.YtnddhkhmbjeefaaC26
namespace Go.Proofs.Ytnddhkhmbjeefaa
open Go.RowKit Go.Lib Go.Maps
attribute [local go_sem] Oper.semAt_some
section
variable {S:List Int} {F:List Phi} {R:List Int} {ra:Option Addr} {rc:Nat} {od:Nat→List Int} {lbv:Array Value} {Sx:List DX→Prop} {Ow:(Nat→Prop)→World→Prop} {w:World}
theorem PxD.soft {k:Nat} {x:DX} {A A':World} (h:PxD S F ra R od k x A) (hk:Kept (fun b=>Soft A b) A A'):PxD S F ra R od k x A':=⟨(h.1.soft hk).mono hk.size (Nat.le_refl _),h.2⟩
def CoL (ra:Option Addr) (rc:Nat) (R:List Int) (Sx:List DX→Prop) (w:World) (e:Ending) (w':World):Prop:=
 ∃sa c xs,e=.returned (.slice sa xs.length c)∧Sx xs∧w'.ownsRow w.heap.size 70 2 (.slice sa xs.length c) xs.length (dC ra rc R xs)∧(∀x∈xs,DgX w' w'.heap.size ra x.lb x.lc R x.Ls)∧Below w.heap.size w w'
set_option maxRecDepth 100000 in
set_option maxHeartbeats 4000000 in
theorem appendSeq_any (hit:ItC 89 lbv (encD ra rc R) (PxD S F ra R od) Sx Ow) (hOw:∀Q w',(∀b,Q b→w.heap.size≤b)→Below w.heap.size w w'→Ow Q w'):
 Calls Try.prog 88 #[.slice none 0 0,.func (.func 89) #[] lbv] w fun e w'=>CoL ra rc R Sx w e w':=by
 obtain⟨i70,hi70,hz700,hz701,hz702⟩:=info_parts Try.info70
 have X1:Hid (Below w.heap.size w (w.alloc (.cells #[.slice none 0 0] 147))):=al (Below.refl _ _) _
 have B1:Hid ((w.alloc (.cells #[.slice none 0 0] 147)).heap[w.heap.size]? =some (.cells #[.slice none 0 0] 147 (0,0))):=heap_alloc_new w _
 have S1:Hid ((w.alloc (.cells #[.slice none 0 0] 147)).heap.size=w.heap.size+1):=by unfold Hid;simp
 refine callsIn_wide.1 (callsIn_of_wp_marks (n:=0) Try.func88 rfl trivial (wpIn_wide.2 ?_) rfl)
 simp only[Try.ntmps88,List.size_toArray,List.length_cons,List.length_nil,Nat.reduceAdd,Nat.reduceSub,Array.replicate_succ,Array.replicate_zero,List.push_toArray,List.append_toArray,List.nil_append,List.cons_append]
 go_wp2
 generalize w.alloc (.cells #[.slice none 0 0] 147)=w1 at *
 refine range_wp (gf:=89) (lb:=lbv) rfl (enters_of Try.func89 (by kernel_rfl) rfl) hit (fun _=>rfl) (CoI w w.heap.size ra rc R) (fun b=>b=w.heap.size) (CoI.stb X1.out.size) ?h0 ?how (fun _ _ _ _ h hk=>h.soft hk)
  (fun x a' W=>∃Bx,W.heap[Bx]? =some (.cells #[.slice ra R.length rc,.slice (some ⟨x.lb,0,none⟩) x.Ls.length x.lc] 70 (0,0))∧a'={ tmps:=#[.slice none 0 0,.func (.func 89) #[] lbv,.pointer (some ⟨w.heap.size,0,none⟩),undef,.slice none 0 0,.pointer (some ⟨Bx,0,none⟩),.func (.func 89) #[] lbv,dgV ra R.length rc x.lb x.Ls.length x.lc,undef,undef,undef,undef,undef],defers:=[] }) ?hax ?assign ?body ?done
 case h0=>exact⟨⟨none,0,B1.out,World.ownsRow_nil _ _ _ _,fun b=>by simp[Value.ownBlock],fun _=>rfl⟩,fun x hx=>by simp at hx,X1.out⟩
 case how=>exact fun Q w' hQ hb=>hOw Q w' (fun b hq=>by rcases hQ b hq with h|h<;>(have:=S1.out;omega)) (X1.out.trans (hb.mono X1.out.size))
 case hax=>
  rintro x a' l A A' ⟨Bx,h1,h2⟩ ⟨r,hr⟩ hk
  exact⟨Bx,(hk.block Bx (lt_of_obj h1) (fun e=>by rw[e,hr] at h1;cases h1)).trans h1,h2⟩
 case assign=>
  intro l xs Q x W K hi hx hK
  simp only[encD]
  gi_wp2
  exact hK _ _ (al (Below.refl _ _) _) ⟨W.heap.size,heap_alloc_new W _,rfl⟩
 case body=>
  rintro l xs Q x a' W hi hx ⟨Bx,hBx,rfl⟩
  obtain⟨sa,c,e1,e2,e3,e4⟩:=hi.ex
  have hk12:xs.length≤12:=hx.2.2.2
  have q0:W.cell? ⟨w.heap.size,0,none⟩=some (.slice sa xs.length c):=by rw[cell_of_row W _ _ _ _ _ e1];rfl
  have q1:W.cell? ⟨Bx,0,none⟩=some (.slice ra R.length rc):=by rw[cell_of_row W _ _ _ _ _ hBx];rfl
  have q2:W.cell? ⟨Bx,1,none⟩=some (.slice (some ⟨x.lb,0,none⟩) x.Ls.length x.lc):=by rw[cell_of_row W _ _ _ _ _ hBx];rfl
  have Y2:Hid (Below W.heap.size W (W.alloc (.cells #[.slice ra R.length rc,.slice (some ⟨x.lb,0,none⟩) x.Ls.length x.lc] 70))):=al (Below.refl _ _) _
  have BQ:Hid (∀V,(W.alloc (.cells #[.slice ra R.length rc,.slice (some ⟨x.lb,0,none⟩) x.Ls.length x.lc] 70)).grownBy V (Value.slice sa xs.length c).ownBlock→V.heap[w.heap.size]? =some (.cells #[.slice sa xs.length c] 147 (0,0))):=fun V hV=>((kept_grown hV).block _ (Nat.lt_of_lt_of_le (lt_of_obj e1) Y2.out.size) (fun hk=>by
   obtain⟨cs,h5⟩:=own_ty e2 _ hk
   exact ty_ne h5 e1 (by decide) rfl)).trans ((Y2.out.block _ (lt_of_obj e1)).trans e1)
  have HI:=hide hi
  have HX:=hide hx.1
  have E1:=hide e1
  have E2:=hide e2
  have E3:=hide e3
  have E4:=hide e4
  have SW:Hid (w.heap.size≤(W.alloc (.cells #[.slice ra R.length rc,.slice (some ⟨x.lb,0,none⟩) x.Ls.length x.lc] 70)).heap.size):=Nat.le_trans hi.bel.size Y2.out.size
  clear hi hx e1 e2 e3 e4 hBx
  gi_wp2_with (gi_at_builtin;refine wpListIn_append_own_at _ rfl (.tmp 8) (.tmp 10) 147 rfl w.heap.size 70 i70 (.agg #[.slice none 0 0,.slice none 0 0]) 2 48 Try.underlying147 hi70 hz700 hz701 hz702 rfl (by decide) _ xs.length (dC ra rc R xs) rfl (own_below E2.out Y2.out) ⟨W.heap.size,0,none⟩ 1 1 [.slice ra R.length rc,.slice (some ⟨x.lb,0,none⟩) x.Ls.length x.lc] rfl rfl (two_new W _ _ _) (by simp[Value.oneCell']) (by unfold maxLen;omega) (by omega) SW.out ?_;intro v8 w8 h1 h2 h3 h4;obtain⟨g8,cap8,rfl⟩:=ownsRow_succ h1;have O8:=hide h1;have G8:=hide h2;have H8:=hide h4;have B8:=BQ.out w8 h2;have q8:w8.cell? ⟨w.heap.size,0,none⟩=some (.slice sa xs.length c):=(by rw[cell_of_row w8 _ _ _ _ _ B8];rfl);have f8:=frozen_of_row w8 w.heap.size 0 _ _ B8;clear h1 h2 h3 h4 B8)
  exact CoI.push HI.out HX.out Y2.out E1.out E2.out E3.out E4.out O8.out G8.out (by rcases H8.out with h|h;exact .inl h;exact .inr h) rfl (Nat.le_refl _)
 case done=>
  intro D xs Q W hD hnD hS hi hdf
  obtain⟨sa,c,e1,e2,e3,e4⟩:=hi.ex
  have q0:W.cell? ⟨w.heap.size,0,none⟩=some (.slice sa xs.length c):=by rw[cell_of_row W _ _ _ _ _ e1];rfl
  have HI:=hide hi
  have HE:=hide e2
  have HE3:=hide e3
  clear hi e1 e2 e3 e4
  go_wp2
  refine⟨by simp,.inl ⟨_,_,rfl,run_takeDeferred hdf,?_⟩⟩
  refine⟨_,results_tmp rfl _ _ _,?_⟩
  have r:Rnd (fun b=>b=D) W (W.putObj D (.deferred none)):=Rnd.putObj _ rfl (soft_other hdf (fun _ _ _ h=>by cases h))
  refine⟨sa,c,xs,rfl,hS,own_kept HE.out r (fun z hz hF=>hnD ?_),fun x hx=>((HI.out.dg x hx).soft r.any).mono r.size (Nat.le_refl _),HI.out.bel.trans (r.belowN HI.out.bel.size (fun b hb=>by have:=X1.out.size;omega))⟩
  rw[←hF.1]
  exact(HE3.out z).2 (.inr hz)
theorem collect_any (hit:ItC 89 lbv (encD ra rc R) (PxD S F ra R od) Sx Ow) (hOw:∀Q w',(∀b,Q b→w.heap.size≤b)→Below w.heap.size w w'→Ow Q w'):
 Calls Try.prog 81 #[.func (.func 89) #[] lbv] w fun e w'=>CoL ra rc R Sx w e w':=by
 have H:=hide (appendSeq_any hit hOw)
 clear hit hOw
 go_enter Try.func81,Try.ntmps81
 go_wp2_with (go_at_call 88;refine H.out.mono ?_;rintro e w1 ⟨sa,c,xs,rfl,h⟩;have HH:=hide h;clear h)
 go_ret
 exact⟨sa,c,xs,rfl,HH.out⟩
end
attribute [local go_sem] Oper.semAt_some
structure Bw9 (w:World) (Q:Nat→Prop) (b base:Nat) (sa:Option Addr) (c:Nat) (ra:Option Addr) (rc:Nat) (R:List Int) (xs:List DX):Prop where
 bx:w.heap[b]? =some (.cells #[.slice sa xs.length c] 147 (0,0))
 row:w.ownsRow base 70 2 (.slice sa xs.length c) xs.length (dC ra rc R xs)
 dg:∀x∈xs,DgX w w.heap.size ra x.lb x.lc R x.Ls
 nb:¬Q b
 nr:∀k,(Value.slice sa xs.length c).ownBlock=some k→¬Q k
def encP (ra:Option Addr) (rc:Nat) (R:List Int) (z:Nat×DX):Array Value:=#[.int .i64 (z.1:Int),dgV ra R.length rc z.2.lb z.2.Ls.length z.2.lc]
def PxP (ra:Option Addr) (R:List Int) (xs:List DX) (k:Nat) (z:Nat×DX) (w:World):Prop:=DgX w w.heap.size ra z.2.lb z.2.lc R z.2.Ls∧k<xs.length∧xs.reverse[k]? =some z.2
section
variable {R:List Int} {ra:Option Addr} {rc:Nat} {w w':World} {Q Q':Nat→Prop} {b base:Nat} {sa:Option Addr} {c:Nat} {xs:List DX}
theorem PxP.soft {k:Nat} {z:Nat×DX} {A A':World} (h:PxP ra R xs k z A) (hk:Kept (fun b=>Soft A b) A A'):PxP ra R xs k z A':=⟨(h.1.soft hk).mono hk.size (Nat.le_refl _),h.2⟩
theorem Bw9.rnd {Z:Nat→Prop} (h:Bw9 w Q b base sa c ra rc R xs) (k:Rnd Z w w') (hz:∀j,j=b∨(Value.slice sa xs.length c).ownBlock=some j→¬Z j) (hq:∀j,j=b∨(Value.slice sa xs.length c).ownBlock=some j→¬Q' j):Bw9 w' Q' b base sa c ra rc R xs:=
 ⟨(k.same (lt_of_obj h.bx) (hz _ (.inl rfl))).trans h.bx,own_kept h.row k (fun z hz' hF=>hz z (.inr hz') hF.1),fun x hx=>((h.dg x hx).soft k.any).mono k.size (Nat.le_refl _),hq _ (.inl rfl),fun j hj=>hq j (.inr hj)⟩
theorem Bw9.low (h:Bw9 w Q b base sa c ra rc R xs) {j:Nat} (hj:j=b∨(Value.slice sa xs.length c).ownBlock=some j):j<w.heap.size:=by
 rcases hj with rfl|hj
 ·exact lt_of_obj h.bx
 ·obtain⟨cs,h5⟩:=own_ty h.row j hj
  exact lt_of_obj h5
set_option maxRecDepth 100000 in
set_option maxHeartbeats 1000000 in
theorem backward_any:Calls Try.prog 83 #[.slice sa xs.length c] w fun e w'=>e=.returned (.func (.func 90) #[] #[.pointer (some ⟨w.heap.size,0,none⟩)])∧w'.heap[w.heap.size]? =some (.cells #[.slice sa xs.length c] 147 (0,0))∧Below w.heap.size w w':=by
 have hmf:∀(fn:Fn) (first cap:Array Value) (w:World),(Instr.makeFunc fn first cap).run Try.prog w=.ok (.func fn first cap) w:=fun _ _ _ _=>rfl
 go_enter Try.func83,Try.ntmps83
 go_wp2
 go_ret
 exact⟨rfl,heap_alloc_new w _,al (Below.refl _ _) _⟩
set_option maxRecDepth 100000 in
set_option maxHeartbeats 4000000 in
theorem backward_it (hN:xs.length≤1000):ItC 90 #[.pointer (some ⟨b,0,none⟩)] (encP ra rc R) (PxP ra R xs) (fun zs=>zs.map (·.2)=xs.reverse) (fun Q w=>Bw9 w Q b base sa c ra rc R xs):=by
 intro l J Q w hJ hY h0 hO
 have d0:w.cell? ⟨b,0,none⟩=some (.slice sa xs.length c):=by rw[cell_of_row w _ _ _ _ _ hO.bx];rfl
 have HJ:=hide hJ
 have HY:=hide hY
 have HO:=hide hO
 have H0:=hide h0
 clear hJ hY hO h0
 have ew:IntKind.i64.wrap ((xs.length:Int)-1)=(xs.length:Int)-1:=by simp[IntKind.wrap,IntKind.bits,IntKind.signed];omega
 go_enter Try.func90,Try.ntmps90
 go_wp2
 clear d0 ew
 go_loopw [3] (fun v3 wr=>∃(zs:List (Nat×DX)) (Q1:Nat→Prop) (j:Nat),v3=.int .i64 ((j:Int)-1)∧j+zs.length=xs.length∧Hid (zs.map (·.2)=(xs.drop j).reverse)∧Hid (J zs Q1 wr)∧Hid (Bw9 wr Q1 b base sa c ra rc R xs)) (fun v3 _=>(RowKit.intOf v3+1).toNat)
 case atStart=>exact⟨[],Q,xs.length,rfl,by simp,hide (by simp),H0,HO⟩
 case round=>
  obtain⟨zs,Q1,j,rfl,hj,HZ,JZ,BZ⟩:=hrel
  clear H0 HO
  by_cases hgo:0<j
  ·obtain⟨i,hi⟩:∃i,j=i+1:=⟨j-1,by omega⟩
   subst hi
   have HJJ:=hide hj
   have hix:i<xs.length:=by omega
   obtain⟨x,hx⟩:∃x,xs[i]=x:=⟨_,rfl⟩
   have d0:wr.cell? ⟨b,0,none⟩=some (.slice sa xs.length c):=by rw[cell_of_row wr _ _ _ _ _ BZ.out.bx];rfl
   obtain⟨g,hg⟩:∃g,sa=some ⟨g,0,none⟩:=by
    rcases BZ.out.row.2 with⟨_,h⟩|⟨g,_,_,e,_⟩
    ·omega
    ·injection e with e
     exact⟨g,e⟩
   subst hg
   obtain⟨g1,g2⟩:=dC_get (ra:=ra) (rc:=rc) (R:=R) xs i hix
   have c1:=(World.ownsRow.cellAt BZ.out.row (i*2) (by omega)).trans g1
   have c2:=(World.ownsRow.cellAt BZ.out.row (i*2+1) (by omega)).trans g2
   rw[hx] at c2
   have e0:((i+1:Nat):Int)-1=(i:Int):=by omega
   have HX:=hide hx
   rw[e0]
   have h0i:(0:Int)≤(i:Int):=by omega
   have hli:(i:Int)<(xs.length:Int):=by omega
   clear hx hj g1 g2
   go_upto_region 3 with fail
   have PX:PxP ra R xs zs.length (i,x) wr:=by
    have h1:=HJJ.out
    refine⟨BZ.out.dg x (by rw[←HX.out];exact List.getElem_mem _),by omega,?_⟩
    rw[List.getElem?_reverse (by omega),show xs.length-1-zs.length=i by omega,List.getElem?_eq_getElem hix,HX.out]
   obtain⟨fn,tm,asg,bdy,hy,hR⟩:=HY.out zs Q1 (i,x) wr JZ.out PX
   simp only[encP] at hy
   clear PX
   refine(wpIn_wide (n:=0)).1 ?_
   gi_wp2
   refine⟨rfl,hR.mono ?_⟩
   rintro e w4 ⟨rfl,Q2,hj4,hr4,hq4⟩
   have nq:∀j,j=b∨(Value.slice (some ⟨g,0,none⟩) xs.length c).ownBlock=some j→¬Q1 j:=fun j hj=>by
    rcases hj with rfl|hj
    ·exact BZ.out.nb
    ·exact BZ.out.nr j hj
   have B4:=hide (BZ.out.rnd (Q':=Q2) hr4 nq (fun j hj hq=>by
    rcases hq4 j hq with h|h
    ·exact nq j hj h
    ·have:=BZ.out.low hj
     omega))
   have J4:=hide hj4
   clear hj4 hr4 hq4 hR hy nq c1 c2 d0
   gi_wp2
   have e5:IntKind.i64.wrap ((i:Int)-1)=(i:Int)-1:=by simp[IntKind.wrap,IntKind.bits,IntKind.signed];omega
   go_wp2
   go_roundw
   case rel=>
    refine⟨zs++[(i,x)],Q2,i,rfl,by have:=HJJ.out;simp;omega,hide ?_,J4,B4⟩
    rw[List.map_append,HZ.out,List.drop_eq_getElem_cons hix,HX.out]
    simp
   case measure=>simp[RowKit.intOf]
  ·obtain rfl:j=0:=by omega
   have HJJ:=hide hj
   clear hj
   go_wp2
   go_end0
   refine⟨⟨_,rfl⟩,zs,Q1,?_,JZ.out⟩
   have:=HZ.out
   simpa using this
end
attribute [local go_sem] Oper.semAt_some
section
variable {S:List Int} {F:List Phi} {R:List Int} {ra:Option Addr} {rc b lb lc:Nat} {Ls:List LA} {E:List Int} {v most:Int} {p:Nat}
set_option maxRecDepth 100000 in
set_option maxHeartbeats 4000000 in
theorem movesA_it (hS:SzOk S) (hm:Sml S F) (G:GD S F R (layL Ls)) (ho:ordL Ls=mv E v p) (hp:p≤E.length) (hm1: -1≤most) (h8:most≤8192):
 ItC 89 #[.pointer (some ⟨b,0,none⟩),.pointer (some ⟨b+1,0,none⟩),.pointer (some ⟨b+2,0,none⟩),.pointer (some ⟨b+3,0,none⟩)] (encD ra rc R) (PxD S F ra R (fun k=>mv E v (p-(k+1)))) (SAh S F R most E v p) (fun Q w=>Mv9 w Q b ra rc R lb lc Ls p (-1) most):=by
 intro l J Q w hJ hY h0 hO
 have hEl:E.length+1=Ls.length:=by
  have:=congrArg List.length ho
  rw[ordL_length,mv_length] at this
  exact this.symm
 have h7:E.length+1≤7:=by have h1:=G.len;have h2:=hm.len;rw[List.length_map] at h1;omega
 have X1:Hid (Below w.heap.size w (w.alloc (.cells #[.slice ra R.length rc,.slice (some ⟨lb,0,none⟩) Ls.length lc] 70))):=al (Below.refl _ _) _
 have ST:Hid (MvI w (w.alloc (.cells #[.slice ra R.length rc,.slice (some ⟨lb,0,none⟩) Ls.length lc] 70)) w.heap.size b ra rc R lb lc Ls p (-1) most S F (fun k=>mv E v (p-(k+1))) J [] Q ⟨lb,lc,Ls⟩ (mv E v p)):=MvI.start hJ h0 hO G ho
 have d0:w.cell? ⟨b,0,none⟩=some (.slice ra R.length rc):=by rw[cell_of_row w _ _ _ _ _ hO.b0];rfl
 have d1:w.cell? ⟨b,1,none⟩=some (.slice (some ⟨lb,0,none⟩) Ls.length lc):=by rw[cell_of_row w _ _ _ _ _ hO.b0];rfl
 have HJ:=hide hJ
 have HY:=hide hY
 have HM:=hide hm
 have HS:=hide hS
 have HPW:=hide hO.lt
 have HEL:=hide hEl
 clear hJ hY h0 hO hm hS G ho hEl
 go_enter Try.func89,Try.ntmps89
 go_upto_region 1 with fail
 clear d0 d1
 generalize w.alloc (.cells #[.slice ra R.length rc,.slice (some ⟨lb,0,none⟩) Ls.length lc] 70)=w1 at *
 obtain⟨c1,c2,c3,c4⟩:=ST.out.cells
 have ew:IntKind.i64.wrap ((p:Int)+(-1))=(p:Int)+(-1):=by simp[IntKind.wrap,IntKind.bits,IntKind.signed];omega
 go_wp2
 clear c1 c2 c3 c4 ew
 go_loopw [7,8] (fun v7 v8 wr=>v7=.bool true∧∃(xs:List DX) (Q1:Nat→Prop) (x:DX) (q:Nat) (nx:Int),v8=.int .i64 nx∧nx=(q:Int)+(-1)∧q≤E.length∧q+xs.length=p∧Hid (MvI w wr w.heap.size b ra rc R lb lc Ls p (-1) most S F (fun k=>mv E v (p-(k+1))) J xs Q1 x (mv E v q))) (fun _ v8 _=>(RowKit.intOf v8+1).toNat)
 case atStart=>exact⟨rfl,[],Q,⟨lb,lc,Ls⟩,p,_,rfl,rfl,hp,by simp,ST⟩
 case round=>
  obtain⟨rfl,xs,Q1,x,q,nx,rfl,hnx,hq,hqx,MI⟩:=hrel
  clear ST
  obtain⟨k1,k2,k3,k4⟩:=MI.out.cells
  obtain⟨k5,k6⟩:=MI.out.now2
  by_cases hgo:0<q
  ·obtain⟨t,ht⟩:∃t,q=t+1:=⟨q-1,by omega⟩
   subst ht
   have htE:t<E.length:=by omega
   obtain⟨u,hu⟩:∃u,E[t]=u:=⟨_,rfl⟩
   have hnx':nx=(t:Int):=by omega
   subst hnx'
   have hoc:=MI.out.oo
   rw[mv_high htE,hu] at hoc
   obtain⟨Aa,xx,bl,Tt,eL,hAo,hxl,hbl,hTo⟩:=pair_of hoc
   have hAk:Aa.length=t:=by rw[←ordL_length,hAo,List.length_take];omega
   have LFT:Hid (∀V,Below wr.heap.size wr V→Calls Try.prog 32 #[dgV ra R.length rc x.lb x.Ls.length x.lc,.int .i64 ((t+1:Nat):Int),.int .i64 (t:Int),.int .i64 most] V fun e w'=>∃r1 n1 c1 l1 n2 c2 bb,e=.returned (.tuple #[.agg #[.slice r1 n1 c1,.slice l1 n2 c2],.bool bb])∧LuX S F ra rc R Aa [xx] bl Tt most r1 n1 c1 l1 n2 c2 bb w'∧Below V.heap.size V w'):=fun V hV=>by
    have G:=MI.out.gd
    have D:=MI.out.dg.below hV
    rw[eL] at G D
    have:=(lift_u (rc:=rc) HS.out HM.out G D hm1 h8).mono (fun e w' h=>LuL.x h)
    rw[hAk,←eL] at this
    exact this
   have HAO:=hide hAo
   have HLV:=hide (And.intro hxl (And.intro hbl hTo))
   have HU:=hide hu
   have HQX:=hide hqx
   clear eL hAo hxl hbl hTo hoc hAk hu hqx hnx
   have hEl:=HEL.out
   have h0t:(0:Int)≤(t:Int):=by omega
   have hlt:(t:Int)<(Ls.length:Int):=by omega
   have e1:IntKind.i64.wrap ((t:Int)- -1)=((t+1:Nat):Int):=by simp[IntKind.wrap,IntKind.bits,IntKind.signed];omega
   clear hEl
   have m1:(t:Int)<((t+1:Nat):Int):=by omega
   have m2:¬((t+1:Nat):Int)<(t:Int):=by omega
   go_upto_region 4 with fail
   go_upto_region 5 with(go_at_call 32;refine(LFT.out _ (Below.refl _ _)).mono ?_;rintro e w2 ⟨r1,n1,c1,l1,n2,c2,bb,rfl,lx,y2⟩;have LX:=hide lx;have Y2:=hide y2;have b2:=(y2.block _ (lt_of_obj MI.out.now)).trans MI.out.now;have s0:w2.cell? ⟨w.heap.size,0,none⟩=some (.slice ra R.length rc):=(by rw[cell_of_row w2 _ _ _ _ _ b2];rfl);have s1:w2.cell? ⟨w.heap.size,1,none⟩=some (.slice (some ⟨x.lb,0,none⟩) x.Ls.length x.lc):=(by rw[cell_of_row w2 _ _ _ _ _ b2];rfl);have g0:=frozen_of_row w2 w.heap.size 0 _ _ b2;have g1:=frozen_of_row w2 w.heap.size 1 _ _ b2;clear lx y2 b2)
   obtain⟨M3,J3,B3,R3,Z3⟩:=MI.out.put (r1:=r1) (n1:=n1) (c1:=c1) (l1:=l1) (n2:=n2) (c2:=c2) HJ.out (Nat.le_refl _) HPW.out Y2.out rfl
   replace M3:=hide M3
   replace J3:=hide J3
   replace B3:=hide B3
   replace R3:=hide R3
   replace Z3:=hide Z3
   clear s0 s1 g0 g1 k1 k2 k3 k4 k5 k6 LFT h0t hlt e1 m1 m2
   generalize (w2.setCell ⟨w.heap.size,0,none⟩ (.slice r1 n1 c1)).setCell ⟨w.heap.size,1,none⟩ (.slice l1 n2 c2)=w3 at *
   cases bb with
   |false=>
    go_wp2
    refine bodyPost_ret (results_none rfl _ _ _) rfl ?_
    refine⟨⟨_,rfl⟩,xs,Q1,⟨MI.out.sx,?_,fun q_ hq_=>?_⟩,J3.out⟩
    ·have:=HQX.out
     omega
    ·have h1:=LX.out.2 rfl
     rw[HAO.out,HLV.out.2.1] at h1
     have:=HQX.out
     exact many_ahead h1 (by omega) (by omega)
   |true=>
    obtain⟨rfl,rfl,rfl,lb2,Ls2,rfl,rfl,D2,G2,e2⟩:=LX.out.1 rfl
    have D3:DgX w3 w3.heap.size r1 lb2 c2 R Ls2:=(D2.soft R3.out.any).mono R3.out.size (Nat.le_refl _)
    have e3:ordL Ls2=mv E v (t):=by
     rw[e2,HAO.out,HLV.out.2.1,HLV.out.2.2,mv_low (by have:=HQX.out;omega),HU.out]
     simp[LA.lay,HLV.out.1]
    have e4:t=p-(xs.length+1):=by have:=HQX.out;omega
    have PX:PxD S F r1 R (fun k=>mv E v (p-(k+1))) xs.length ⟨lb2,c2,Ls2⟩ w3:=⟨D3,G2,by rw[e3,e4],by have:=HQX.out;omega⟩
    obtain⟨fn,tm,asg,bdy,hy,hR⟩:=HY.out xs Q1 ⟨lb2,c2,Ls2⟩ w3 J3.out PX
    simp only[encD] at hy
    have HD3:=hide (And.intro D3 (And.intro G2 e3))
    have HE4:=hide e4
    clear D3 PX D2 G2 e2 e3 e4 LX
    have s0:w3.cell? ⟨w.heap.size,0,none⟩=some (.slice r1 R.length c1):=by rw[cell_of_row w3 _ _ _ _ _ B3.out];rfl
    have s1:w3.cell? ⟨w.heap.size,1,none⟩=some (.slice (some ⟨lb2,0,none⟩) Ls2.length c2):=by rw[cell_of_row w3 _ _ _ _ _ B3.out];rfl
    refine(wpIn_wide (n:=0)).1 ?_
    gi_wp2
    refine⟨rfl,hR.mono ?_⟩
    rintro e w4 ⟨rfl,Q2,hj4,hr4,hq4⟩
    have M4:Mv9 w4 Q2 b r1 c1 R lb lc Ls p (-1) most:=M3.out.rnd hr4 M3.out.nq (fun k h1 h2 hk=>by
     rcases hq4 k hk with h|h
     ·exact M3.out.nq k h1 h2 h
     ·have:=M3.out.lt;omega)
    have nq4:¬Q2 w.heap.size:=fun hk=>by
     rcases hq4 _ hk with h|h
     ·exact MI.out.nq h
     ·have:=lt_of_obj B3.out;omega
    have FIN:Hid (MvI w w4 w.heap.size b r1 c1 R lb lc Ls p (-1) most S F (fun k=>mv E v (p-(k+1))) J (xs++[⟨lb2,c2,Ls2⟩]) Q2 ⟨lb2,c2,Ls2⟩ (mv E v (t))):=⟨M4,hj4,(hr4.same (lt_of_obj B3.out) MI.out.nq).trans B3.out,nq4,(HD3.out.1.soft hr4.any).mono hr4.size (Nat.le_refl _),HD3.out.2.1,HD3.out.2.2,MI.out.sx.push HD3.out.2.1 (by rw[HD3.out.2.2,HE4.out]),Nat.le_trans Z3.out hr4.size⟩
    obtain⟨k1,k2,k3,k4⟩:=FIN.out.cells
    clear M4 nq4 hj4 hr4 hq4 hR hy s0 s1
    gi_wp2
    have e5:IntKind.i64.wrap ((t:Int)+ -1)=(t:Int)+ -1:=by simp[IntKind.wrap,IntKind.bits,IntKind.signed];omega
    go_wp2
    go_roundw
    case rel=>exact⟨rfl,xs++[⟨lb2,c2,Ls2⟩],Q2,⟨lb2,c2,Ls2⟩,t,_,rfl,by first|rfl|omega,by omega,by have:=HQX.out;simp;omega,FIN⟩
    case measure=>simp[RowKit.intOf];omega
  ·have HQX:=hide hqx
   have hnx':nx= -1:=by have:=HEL.out;omega
   subst hnx'
   clear hqx hnx
   go_wp2
   go_end0
   refine⟨⟨_,rfl⟩,xs,Q1,⟨MI.out.sx,?_,fun q_ hq_=>?_⟩,MI.out.j⟩
   ·have:=HQX.out
    omega
   ·have:=HQX.out
    omega
end
attribute [local go_sem] Oper.semAt_some
section
variable {S:List Int} {F:List Phi} {R:List Int} {ra:Option Addr} {rc b lb lc:Nat} {Ls:List LA} {E:List Int} {v most:Int} {p:Nat}
set_option maxRecDepth 100000 in
set_option maxHeartbeats 4000000 in
theorem movesB_it (hS:SzOk S) (hm:Sml S F) (G:GD S F R (layL Ls)) (ho:ordL Ls=mv E v p) (hp:p≤E.length) (hm1: -1≤most) (h8:most≤8192):
 ItC 89 #[.pointer (some ⟨b,0,none⟩),.pointer (some ⟨b+1,0,none⟩),.pointer (some ⟨b+2,0,none⟩),.pointer (some ⟨b+3,0,none⟩)] (encD ra rc R) (PxD S F ra R (fun k=>mv E v (p+(k+1)))) (SBh S F R most E v p) (fun Q w=>Mv9 w Q b ra rc R lb lc Ls p 1 most):=by
 intro l J Q w hJ hY h0 hO
 have hEl:E.length+1=Ls.length:=by
  have:=congrArg List.length ho
  rw[ordL_length,mv_length] at this
  exact this.symm
 have h7:E.length+1≤7:=by have h1:=G.len;have h2:=hm.len;rw[List.length_map] at h1;omega
 have X1:Hid (Below w.heap.size w (w.alloc (.cells #[.slice ra R.length rc,.slice (some ⟨lb,0,none⟩) Ls.length lc] 70))):=al (Below.refl _ _) _
 have ST:Hid (MvI w (w.alloc (.cells #[.slice ra R.length rc,.slice (some ⟨lb,0,none⟩) Ls.length lc] 70)) w.heap.size b ra rc R lb lc Ls p 1 most S F (fun k=>mv E v (p+(k+1))) J [] Q ⟨lb,lc,Ls⟩ (mv E v p)):=MvI.start hJ h0 hO G ho
 have d0:w.cell? ⟨b,0,none⟩=some (.slice ra R.length rc):=by rw[cell_of_row w _ _ _ _ _ hO.b0];rfl
 have d1:w.cell? ⟨b,1,none⟩=some (.slice (some ⟨lb,0,none⟩) Ls.length lc):=by rw[cell_of_row w _ _ _ _ _ hO.b0];rfl
 have HJ:=hide hJ
 have HY:=hide hY
 have HM:=hide hm
 have HS:=hide hS
 have HPW:=hide hO.lt
 have HEL:=hide hEl
 clear hJ hY h0 hO hm hS G ho hEl
 go_enter Try.func89,Try.ntmps89
 go_upto_region 1 with fail
 clear d0 d1
 generalize w.alloc (.cells #[.slice ra R.length rc,.slice (some ⟨lb,0,none⟩) Ls.length lc] 70)=w1 at *
 obtain⟨c1,c2,c3,c4⟩:=ST.out.cells
 have ew:IntKind.i64.wrap ((p:Int)+1)=(p:Int)+1:=by simp[IntKind.wrap,IntKind.bits,IntKind.signed];omega
 go_wp2
 clear c1 c2 c3 c4 ew
 go_loopw [7,8] (fun v7 v8 wr=>v7=.bool true∧∃(xs:List DX) (Q1:Nat→Prop) (x:DX) (q:Nat) (nx:Int),v8=.int .i64 nx∧nx=(q:Int)+1∧q≤E.length∧q=p+xs.length∧Hid (MvI w wr w.heap.size b ra rc R lb lc Ls p 1 most S F (fun k=>mv E v (p+(k+1))) J xs Q1 x (mv E v q))) (fun _ v8 _=>(E.length+1-RowKit.intOf v8).toNat)
 case atStart=>exact⟨rfl,[],Q,⟨lb,lc,Ls⟩,p,_,rfl,rfl,hp,by simp,ST⟩
 case round=>
  obtain⟨rfl,xs,Q1,x,q,nx,rfl,hnx,hq,hqx,MI⟩:=hrel
  clear ST
  obtain⟨k1,k2,k3,k4⟩:=MI.out.cells
  obtain⟨k5,k6⟩:=MI.out.now2
  by_cases hgo:q<E.length
  ·obtain⟨t,ht⟩:∃t,t=q:=⟨q,by omega⟩
   subst ht
   have htE:t<E.length:=by omega
   obtain⟨u,hu⟩:∃u,E[t]=u:=⟨_,rfl⟩
   have hnx':nx=((t+1:Nat):Int):=by omega
   subst hnx'
   have hoc:=MI.out.oo
   rw[mv_low htE,hu] at hoc
   obtain⟨Aa,xx,bl,Tt,eL,hAo,hxl,hbl,hTo⟩:=pair_of hoc
   have hAk:Aa.length=t:=by rw[←ordL_length,hAo,List.length_take];omega
   have LFT:Hid (∀V,Below wr.heap.size wr V→Calls Try.prog 32 #[dgV ra R.length rc x.lb x.Ls.length x.lc,.int .i64 ((t+1:Nat):Int),.int .i64 (t:Int),.int .i64 most] V fun e w'=>∃r1 n1 c1 l1 n2 c2 bb,e=.returned (.tuple #[.agg #[.slice r1 n1 c1,.slice l1 n2 c2],.bool bb])∧LuX S F ra rc R Aa [xx] bl Tt most r1 n1 c1 l1 n2 c2 bb w'∧Below V.heap.size V w'):=fun V hV=>by
    have G:=MI.out.gd
    have D:=MI.out.dg.below hV
    rw[eL] at G D
    have:=(lift_u (rc:=rc) HS.out HM.out G D hm1 h8).mono (fun e w' h=>LuL.x h)
    rw[hAk,←eL] at this
    exact this
   have HAO:=hide hAo
   have HLV:=hide (And.intro hxl (And.intro hbl hTo))
   have HU:=hide hu
   have HQX:=hide hqx
   clear eL hAo hxl hbl hTo hoc hAk hu hqx hnx
   have hEl:=HEL.out
   have h0t:(0:Int)≤((t+1:Nat):Int):=by omega
   have hlt:((t+1:Nat):Int)<(Ls.length:Int):=by omega
   have e1:IntKind.i64.wrap (((t+1:Nat):Int)-1)=(t:Int):=by simp[IntKind.wrap,IntKind.bits,IntKind.signed];omega
   clear hEl
   have m1:(t:Int)<((t+1:Nat):Int):=by omega
   have m2:¬((t+1:Nat):Int)<(t:Int):=by omega
   go_upto_region 4 with fail
   go_upto_region 5 with(go_at_call 32;refine(LFT.out _ (Below.refl _ _)).mono ?_;rintro e w2 ⟨r1,n1,c1,l1,n2,c2,bb,rfl,lx,y2⟩;have LX:=hide lx;have Y2:=hide y2;have b2:=(y2.block _ (lt_of_obj MI.out.now)).trans MI.out.now;have s0:w2.cell? ⟨w.heap.size,0,none⟩=some (.slice ra R.length rc):=(by rw[cell_of_row w2 _ _ _ _ _ b2];rfl);have s1:w2.cell? ⟨w.heap.size,1,none⟩=some (.slice (some ⟨x.lb,0,none⟩) x.Ls.length x.lc):=(by rw[cell_of_row w2 _ _ _ _ _ b2];rfl);have g0:=frozen_of_row w2 w.heap.size 0 _ _ b2;have g1:=frozen_of_row w2 w.heap.size 1 _ _ b2;clear lx y2 b2)
   obtain⟨M3,J3,B3,R3,Z3⟩:=MI.out.put (r1:=r1) (n1:=n1) (c1:=c1) (l1:=l1) (n2:=n2) (c2:=c2) HJ.out (Nat.le_refl _) HPW.out Y2.out rfl
   replace M3:=hide M3
   replace J3:=hide J3
   replace B3:=hide B3
   replace R3:=hide R3
   replace Z3:=hide Z3
   clear s0 s1 g0 g1 k1 k2 k3 k4 k5 k6 LFT h0t hlt e1 m1 m2
   generalize (w2.setCell ⟨w.heap.size,0,none⟩ (.slice r1 n1 c1)).setCell ⟨w.heap.size,1,none⟩ (.slice l1 n2 c2)=w3 at *
   cases bb with
   |false=>
    go_wp2
    refine bodyPost_ret (results_none rfl _ _ _) rfl ?_
    refine⟨⟨_,rfl⟩,xs,Q1,⟨MI.out.sx,?_,fun q_ hq_ hq2_=>?_⟩,J3.out⟩
    ·have:=HQX.out
     omega
    ·have h1:=LX.out.2 rfl
     rw[HAO.out,HLV.out.2.1] at h1
     have:=HQX.out
     exact many_behind (by omega) (by rw[HU.out];exact h1) (by omega) hq2_
   |true=>
    obtain⟨rfl,rfl,rfl,lb2,Ls2,rfl,rfl,D2,G2,e2⟩:=LX.out.1 rfl
    have D3:DgX w3 w3.heap.size r1 lb2 c2 R Ls2:=(D2.soft R3.out.any).mono R3.out.size (Nat.le_refl _)
    have e3:ordL Ls2=mv E v (t+1):=by
     rw[e2,HAO.out,HLV.out.2.1,HLV.out.2.2,mv_high (by have:=HQX.out;omega),HU.out]
     simp[LA.lay,HLV.out.1]
    have e4:t+1=p+(xs.length+1):=by have:=HQX.out;omega
    have PX:PxD S F r1 R (fun k=>mv E v (p+(k+1))) xs.length ⟨lb2,c2,Ls2⟩ w3:=⟨D3,G2,by rw[e3,e4],by have:=HQX.out;omega⟩
    obtain⟨fn,tm,asg,bdy,hy,hR⟩:=HY.out xs Q1 ⟨lb2,c2,Ls2⟩ w3 J3.out PX
    simp only[encD] at hy
    have HD3:=hide (And.intro D3 (And.intro G2 e3))
    have HE4:=hide e4
    clear D3 PX D2 G2 e2 e3 e4 LX
    have s0:w3.cell? ⟨w.heap.size,0,none⟩=some (.slice r1 R.length c1):=by rw[cell_of_row w3 _ _ _ _ _ B3.out];rfl
    have s1:w3.cell? ⟨w.heap.size,1,none⟩=some (.slice (some ⟨lb2,0,none⟩) Ls2.length c2):=by rw[cell_of_row w3 _ _ _ _ _ B3.out];rfl
    refine(wpIn_wide (n:=0)).1 ?_
    gi_wp2
    refine⟨rfl,hR.mono ?_⟩
    rintro e w4 ⟨rfl,Q2,hj4,hr4,hq4⟩
    have M4:Mv9 w4 Q2 b r1 c1 R lb lc Ls p 1 most:=M3.out.rnd hr4 M3.out.nq (fun k h1 h2 hk=>by
     rcases hq4 k hk with h|h
     ·exact M3.out.nq k h1 h2 h
     ·have:=M3.out.lt;omega)
    have nq4:¬Q2 w.heap.size:=fun hk=>by
     rcases hq4 _ hk with h|h
     ·exact MI.out.nq h
     ·have:=lt_of_obj B3.out;omega
    have FIN:Hid (MvI w w4 w.heap.size b r1 c1 R lb lc Ls p 1 most S F (fun k=>mv E v (p+(k+1))) J (xs++[⟨lb2,c2,Ls2⟩]) Q2 ⟨lb2,c2,Ls2⟩ (mv E v (t+1))):=⟨M4,hj4,(hr4.same (lt_of_obj B3.out) MI.out.nq).trans B3.out,nq4,(HD3.out.1.soft hr4.any).mono hr4.size (Nat.le_refl _),HD3.out.2.1,HD3.out.2.2,MI.out.sx.push HD3.out.2.1 (by rw[HD3.out.2.2,HE4.out]),Nat.le_trans Z3.out hr4.size⟩
    obtain⟨k1,k2,k3,k4⟩:=FIN.out.cells
    clear M4 nq4 hj4 hr4 hq4 hR hy s0 s1
    gi_wp2
    have e5:IntKind.i64.wrap (((t+1:Nat):Int)+1)=((t+1:Nat):Int)+1:=by simp[IntKind.wrap,IntKind.bits,IntKind.signed];omega
    go_wp2
    go_roundw
    case rel=>exact⟨rfl,xs++[⟨lb2,c2,Ls2⟩],Q2,⟨lb2,c2,Ls2⟩,t+1,_,rfl,by first|rfl|omega,by omega,by have:=HQX.out;simp;omega,FIN⟩
    case measure=>simp[RowKit.intOf];omega
  ·have HQX:=hide hqx
   have hnx':nx=(Ls.length:Int):=by have:=HEL.out;omega
   subst hnx'
   clear hqx hnx
   go_wp2
   go_end0
   refine⟨⟨_,rfl⟩,xs,Q1,⟨MI.out.sx,?_,fun q_ hq_ hq2_=>?_⟩,MI.out.j⟩
   ·have:=HQX.out
    omega
   ·have:=HQX.out
    omega
end
end Go.Proofs.Ytnddhkhmbjeefaa

