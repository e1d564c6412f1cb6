/-
  What others$1 has caught, and what its loops keep; others by its contract. No condition.
-/
import Derived.Test.YtnddhkhmbjeefaaC27
import Derived.Test.YtnddhkhmbjeefaaC19
namespace Go.Proofs.Ytnddhkhmbjeefaa
open Go.RowKit Go.Lib Go.Maps
structure Ot9 (w:World) (Q:Nat→Prop) (b:Nat) (ra:Option Addr) (rc:Nat) (R:List Int) (lb lc:Nat) (Ls:List LA) (v most:Int):Prop where
 b0:w.heap[b]? =some (.cells #[.slice ra R.length rc,.slice (some ⟨lb,0,none⟩) Ls.length lc] 70 (0,0))
 b1:w.heap[b+1]? =some (.cells #[.int .i64 v] 3 (0,0))
 b2:w.heap[b+2]? =some (.cells #[.int .i64 most] 3 (0,0))
 dg:DgX w w.heap.size ra lb lc R Ls
 nq:∀k,b≤k→k≤b+2→¬Q k
def PxO (S:List Int) (F:List Phi) (ra:Option Addr) (R:List Int) (_:Nat) (x:DX) (w:World):Prop:=DgX w w.heap.size ra x.lb x.lc R x.Ls∧GD S F R (layL x.Ls)
def SOt (S:List Int) (F:List Phi) (R:List Int) (most:Int) (E:List Int) (v:Int) (p:Nat) (xs:List DX):Prop:=∃As Bs,SAh S F R most E v p As∧SBh S F R most E v p Bs∧xs=As.reverse++Bs
section
variable {S:List Int} {F:List Phi} {R:List Int} {ra:Option Addr} {rc b lb lc:Nat} {Ls:List LA} {E:List Int} {v most:Int} {p:Nat} {w w':World} {Q Q':Nat→Prop}
theorem PxO.soft {k:Nat} {x:DX} {A A':World} (h:PxO S F ra R k x A) (hk:Kept (fun b=>Soft A b) A A'):PxO S F ra R k x A':=⟨(h.1.soft hk).mono hk.size (Nat.le_refl _),h.2⟩
theorem Ot9.lt (h:Ot9 w Q b ra rc R lb lc Ls v most):b+2<w.heap.size:=lt_of_obj h.b2
theorem Ot9.rnd {Z:Nat→Prop} (h:Ot9 w Q b ra rc R lb lc Ls v most) (k:Rnd Z w w') (hz:∀k,b≤k→k≤b+2→¬Z k) (hq:∀k,b≤k→k≤b+2→¬Q' k):Ot9 w' Q' b ra rc R lb lc Ls v most:=by
 have hlt:=h.lt
 exact⟨(k.same (by omega) (hz _ (by omega) (by omega))).trans h.b0,(k.same (by omega) (hz _ (by omega) (by omega))).trans h.b1,(k.same (by omega) (hz _ (by omega) (by omega))).trans h.b2,(h.dg.soft k.any).mono k.size (Nat.le_refl _),hq⟩
theorem Ot9.cells (h:Ot9 w Q b ra rc R lb lc Ls v most):w.cell? ⟨b,0,none⟩=some (.slice ra R.length rc)∧w.cell? ⟨b,1,none⟩=some (.slice (some ⟨lb,0,none⟩) Ls.length lc)∧w.cell? ⟨b+1,0,none⟩=some (.int .i64 v)∧w.cell? ⟨b+2,0,none⟩=some (.int .i64 most):=
 ⟨by rw[cell_of_row w _ _ _ _ _ h.b0];rfl,by rw[cell_of_row w _ _ _ _ _ h.b0];rfl,by rw[cell_of_row w _ _ _ _ _ h.b1];rfl,by rw[cell_of_row w _ _ _ _ _ h.b2];rfl⟩
theorem place_mv (G:GD S F R (layL Ls)) (ho:ordL Ls=mv E v p) (hp:p≤E.length):∃h:p<Ls.length,(Ls[p]).lv=v∧∀i (hi:i<p),(Ls[i]).lv≠v:=by
 have hl:=congrArg List.length ho
 rw[ordL_length,mv_length] at hl
 have hpl:p<Ls.length:=by omega
 have e1:(ordL Ls)[p]? =some v:=by
  rw[ho,mv,List.getElem?_append_right (by rw[List.length_take];omega),List.length_take,Nat.min_eq_left hp,Nat.sub_self]
  rfl
 have e2:(Ls[p]).lv=v:=by
  rw[ordL_get hpl] at e1
  exact Option.some.inj e1
 refine⟨hpl,e2,fun i hi e3=>?_⟩
 have hno:(ordL Ls).Nodup:=G.ord.nod
 refine List.pairwise_iff_getElem.1 hno i p (by rw[ordL_length];omega) (by rw[ordL_length];omega) hi ?_
 have h1:=ordL_get (Ls:=Ls) (i:=i) (by omega)
 have h2:=ordL_get hpl
 rw[List.getElem?_eq_getElem (by rw[ordL_length];omega)] at h1 h2
 rw[Option.some.inj h1,Option.some.inj h2,e3,e2]
def InI {α:Type} (J:List DX→(Nat→Prop)→World→Prop) (f:List α→List DX) (w1:World) (Q1:Nat→Prop) (zs:List α) (Q:Nat→Prop) (w:World):Prop:=J (f zs) Q w∧Rnd Q1 w1 w∧∀b,Q b→Q1 b∨w1.heap.size≤b
theorem InI.stb {α:Type} {J:List DX→(Nat→Prop)→World→Prop} {f:List α→List DX} {w1:World} {Q1:Nat→Prop} {B:Nat} (hJ:Stb B J) (hB:B≤w1.heap.size):Stb w1.heap.size (InI J f w1 Q1):=by
 refine⟨fun zs Q A A' ⟨h1,h2,h3⟩ k=>⟨hJ.its _ _ _ _ h1 (Rnd.its (Its.rnd k) (fun b hb=>⟨by have:=hb.1;omega,hb.2⟩)),h2.trans_new (Its.rnd k) (fun b hb hq=>by have:=hq.1;omega),h3⟩,fun zs Q A h=>hJ.low _ _ _ h.1⟩
theorem InI.start {α:Type} {J:List DX→(Nat→Prop)→World→Prop} {f:List α→List DX} {w1:World} {Q1:Nat→Prop} (h:J (f []) Q1 w1):InI J f w1 Q1 [] Q1 w1:=⟨h,Rnd.refl,fun _ h=>.inl h⟩
theorem InI.step {α:Type} {J:List DX→(Nat→Prop)→World→Prop} {f:List α→List DX} {w1:World} {Q1:Nat→Prop} {zs:List α} {z:α} {x:DX} {w4:World} {Q2:Nat→Prop} (h:InI J f w1 Q1 zs Q w) (e:f (zs++[z])=f zs++[x]) (hj:J (f zs++[x]) Q2 w4) (hr:Rnd Q w w4) (hq:∀b,Q2 b→Q b∨w.heap.size≤b):InI J f w1 Q1 (zs++[z]) Q2 w4:=by
 refine⟨by rw[e];exact hj,h.2.1.trans_new hr (fun b hb hq1=>?_),fun b hb=>?_⟩
 ·rcases h.2.2 b hq1 with h1|h1
  ·exact h1
  ·omega
 ·rcases hq b hb with h1|h1
  ·exact h.2.2 b h1
  ·exact .inr (Nat.le_trans h.2.1.size h1)
theorem InI.same {α:Type} {J:List DX→(Nat→Prop)→World→Prop} {f:List α→List DX} {w1:World} {Q1:Nat→Prop} {zs:List α} (h:InI J f w1 Q1 zs Q w) {k:Nat} {o:Obj} (hk:w1.heap[k]? =some o) (hq:¬Q1 k):w.heap[k]? =some o∧¬Q k:=
 ⟨(h.2.1.same (lt_of_obj hk) hq).trans hk,fun hh=>by
   rcases h.2.2 k hh with h1|h1
   ·exact hq h1
   ·have:=lt_of_obj hk
    omega⟩
theorem blocks3 (o1 o2 o3:Obj):∃w',w'=((w.alloc o1).alloc o2).alloc o3∧Below w.heap.size w w'∧w'.heap[w.heap.size]? =some o1∧w'.heap[w.heap.size+1]? =some o2∧w'.heap[w.heap.size+2]? =some o3:=by
 have s1:(w.alloc o1).heap.size=w.heap.size+1:=by simp
 have s2:((w.alloc o1).alloc o2).heap.size=w.heap.size+2:=by simp
 have y2:=al (Below.refl _ (w.alloc o1)) o2
 have y3:=al (Below.refl _ ((w.alloc o1).alloc o2)) o3
 have b1:=World.alloc_heap_new w o1
 have b2:=World.alloc_heap_new (w.alloc o1) o2
 have b3:=World.alloc_heap_new ((w.alloc o1).alloc o2) o3
 rw[s1] at b2
 rw[s2] at b3
 exact⟨_,rfl,al (al (al (Below.refl _ _) _) _) _,(y3.block _ (by omega)).trans ((y2.block _ (by omega)).trans b1),(y3.block _ (by omega)).trans b2,b3⟩
abbrev otCap (b:Nat):Array Value:=#[.pointer (some ⟨b,0,none⟩),.pointer (some ⟨b+1,0,none⟩),.pointer (some ⟨b+2,0,none⟩)]
set_option maxRecDepth 100000 in
set_option maxHeartbeats 1000000 in
theorem others_any {B:Nat} (D:DgX w B ra lb lc R Ls):
 Calls Try.prog 71 #[dgV ra R.length rc lb Ls.length lc,.int .i64 v,.int .i64 most] w fun e w'=>∃b,e=.returned (.func (.func 80) #[] (otCap b))∧w.heap.size≤b∧(∀Q,(∀k,Q k→k<w.heap.size)→Ot9 w' Q b ra rc R lb lc Ls v most)∧Below w.heap.size w w':=by
 have hmf:∀(fn:Fn) (first cap:Array Value) (w:World),(Instr.makeFunc fn first cap).run Try.prog w=.ok (.func fn first cap) w:=fun _ _ _ _=>rfl
 obtain⟨w',hw',y,b0,b1,b2⟩:=blocks3 (w:=w) (.cells #[.slice ra R.length rc,.slice (some ⟨lb,0,none⟩) Ls.length lc] 70) (.cells #[.int .i64 v] 3) (.cells #[.int .i64 most] 3)
 have HY:=hide y
 have HB:=hide (And.intro b0 (And.intro b1 b2))
 have HD:=hide D
 have HW:=hide hw'
 clear hw' y b0 b1 b2 D
 go_enter Try.func71,Try.ntmps71
 go_wp2
 go_ret
 rw[←HW.out]
 exact⟨w.heap.size,rfl,Nat.le_refl _,fun Q hQ=>⟨HB.out.1,HB.out.2.1,HB.out.2.2,(HD.out.below (HY.out.mono HD.out.hB)).mono (Nat.le_trans HD.out.hB HY.out.size) (Nat.le_refl _),fun k h1 _ hq=>by have:=hQ k hq;omega⟩,HY.out⟩
end
attribute [local go_sem] Oper.semAt_some
section
variable {S:List Int} {F:List Phi} {R:List Int} {ra:Option Addr} {rc b lb lc:Nat} {Ls:List LA} {E:List Int} {v most:Int} {p:Nat}
set_option maxRecDepth 100000 in
set_option maxHeartbeats 4000000 in
theorem others_it (hS:SzOk S) (hm:Sml S F) (G:GD S F R (layL Ls)) (ho:ordL Ls=mv E v p) (hp:p≤E.length) (hm1: -1≤most) (h8:most≤8192):
 ItC 80 (otCap b) (encD ra rc R) (PxO S F ra R) (SOt S F R most E v p) (fun Q w=>Ot9 w Q b ra rc R lb lc Ls v most):=by
 intro l J Q w hJ hY h0 hO
 obtain⟨hpl,hpv,hpn⟩:=place_mv G ho hp
 have h7:Ls.length≤12:=by have h1:=G.len;have h2:=hm.len;rw[List.length_map] at h1;omega
 have hEl:E.length+1=Ls.length:=by
  have:=congrArg List.length ho
  rw[ordL_length,mv_length] at this
  exact this.symm
 have ITA:Hid (∀b',ItC 89 (mvCap b') (encD ra rc R) (PxD S F ra R (fun k=>mv E v (p-(k+1)))) (SAh S F R most E v p) (fun Q w=>Mv9 w Q b' ra rc R lb lc Ls p (-1) most)):=fun b'=>movesA_it hS hm G ho hp hm1 h8
 have ITB:Hid (∀b',ItC 89 (mvCap b') (encD ra rc R) (PxD S F ra R (fun k=>mv E v (p+(k+1)))) (SBh S F R most E v p) (fun Q w=>Mv9 w Q b' ra rc R lb lc Ls p 1 most)):=fun b'=>movesB_it hS hm G ho hp hm1 h8
 have X1:Hid (Below w.heap.size w (w.alloc (.cells #[.func (.yield l) #[] #[]] 146))):=al (Below.refl _ _) _
 have T1:Hid ((w.alloc (.cells #[.func (.yield l) #[] #[]] 146)).heap[w.heap.size]? =some (.cells #[.func (.yield l) #[] #[]] 146 (0,0))):=heap_alloc_new w _
 have O1:=hide (hO.rnd (Rnd.of_below (Q:=fun _=>False) X1.out) (fun _ _ _ h=>h) hO.nq)
 have J1:=hide (hJ.its _ _ _ _ h0 (Its.of_below X1.out))
 have QL:=hide (hJ.low _ _ _ h0)
 have PLC:Hid (∀V,Below (w.alloc (.cells #[.func (.yield l) #[] #[]] 146)).heap.size (w.alloc (.cells #[.func (.yield l) #[] #[]] 146)) V→Calls Try.prog 33 #[dgV ra R.length rc lb Ls.length lc,.int .i64 v] V fun e w'=>e=.returned (.int .i64 (p:Int))∧Below V.heap.size V w'):=fun V hV=>placeOf_any h7 (O1.out.dg.below hV) hpl hpv (fun i hi=>hpn i hi)
 have HJ:=hide hJ
 have HY:=hide hY
 have HEL:=hide hEl
 have HG:=hide G
 clear hJ hY h0 hO hpv hpn hS hm G ho hEl
 refine callsIn_wide.1 (callsIn_of_wp_marks (n:=0) Try.func80 rfl trivial (wpIn_wide.2 ?_) rfl)
 simp only[otCap,Try.ntmps80,List.size_toArray,List.length_cons,List.length_nil,Nat.reduceAdd,Nat.reduceSub,Array.replicate_succ,Array.replicate_zero,List.push_toArray,List.append_toArray,List.nil_append,List.cons_append]
 go_upto_region 1 with fail
 generalize w.alloc (.cells #[.func (.yield l) #[] #[]] 146)=w1 at *
 obtain⟨c1,c2,c3,c4⟩:=O1.out.cells
 go_upto_region 2 with(go_at_call 33;refine(PLC.out w1 (Below.refl _ _)).mono ?_;rintro e w2 ⟨rfl,x2⟩;have X2:=hide x2;clear x2)
 clear c1 c2 c3 c4 PLC
 have O2:=hide (O1.out.rnd (Rnd.of_below (Q:=fun _=>False) X2.out) (fun _ _ _ h=>h) O1.out.nq)
 obtain⟨c1,c2,c3,c4⟩:=O2.out.cells
 go_upto_region 3 with(first
  |(go_at_call 82;refine(moves_any (rc:=rc) (p:=p) (s:= -1) (most:=most) O2.out.dg).mono ?_;rintro e w3 ⟨b3,rfl,hb3,hM3,x3⟩;have M3:=hide (And.intro hb3 hM3);have X3:=hide x3;clear hb3 hM3 x3)
  |(go_at_call 81;refine(collect_any (w:=w3) (ITA.out b3) (fun Q' w' hQ hb=>(M3.out.2 (fun _=>False) (fun _ h=>h.elim)).rnd (Rnd.of_below (Q:=fun _=>False) hb) (fun _ _ _ h=>h) (fun k h1 h2 hk=>by have:=hQ k hk;have:=(M3.out.2 (fun _=>False) (fun _ h=>h.elim)).lt;omega))).mono ?_;rintro e w4 ⟨sa,sc,As,rfl,hSA,hrow,hdg,x4⟩;have SA:=hide hSA;have RW:=hide hrow;have DA:=hide hdg;have X4:=hide x4;clear hSA hrow hdg x4))
 clear c1 c2 c3 c4
 go_wp2_with (go_at_call 83;refine(backward_any (xs:=As)).mono ?_;rintro e w5 ⟨rfl,hb5,x5⟩;have B5:=hide hb5;have X5:=hide x5;clear hb5 x5)
 have W12:Hid (Below w1.heap.size w1 w5):=bt (bt (bt X2.out X3.out (Nat.le_refl _)) X4.out (Nat.le_refl _)) X5.out (Nat.le_refl _)
 have W05:Hid (Below w.heap.size w w5):=bt X1.out W12.out (Nat.le_refl _)
 have O5:=hide (O1.out.rnd (Rnd.of_below (Q:=fun _=>False) W12.out) (fun _ _ _ h=>h) O1.out.nq)
 have T5:=hide ((W12.out.block _ (lt_of_obj T1.out)).trans T1.out)
 have J5:=hide (HJ.out.its _ _ _ _ J1.out (Its.of_below W12.out))
 have S34:Hid (w.heap.size≤w3.heap.size∧w3.heap.size≤w4.heap.size∧w4.heap.size<w5.heap.size):=⟨Nat.le_trans X1.out.size (Nat.le_trans X2.out.size X3.out.size),X4.out.size,lt_of_obj B5.out⟩
 have BW5:Hid (Bw9 w5 (fun _=>False) w4.heap.size w3.heap.size sa sc ra rc R As):=⟨B5.out,own_below RW.out X5.out,fun x hx=>((DA.out x hx).below X5.out).mono X5.out.size (Nat.le_refl _),fun h=>h,fun _ _ h=>h⟩
 have hN:As.length≤1000:=by have:=SA.out.2.1;omega
 clear B5 X5 W12 O1 O2 T1 J1 X1 X2 X3 X4 RW DA M3
 refine range_wp (gf:=90) (lb:=#[.pointer (some ⟨w4.heap.size,0,none⟩)]) rfl (enters_of Try.func90 (by kernel_rfl) rfl) (backward_it (xs:=As) (sa:=sa) (c:=sc) (base:=w3.heap.size) (b:=w4.heap.size) (rc:=rc) (ra:=ra) (R:=R) hN) (fun _=>rfl) (InI J (fun zs=>zs.map (·.2)) w5 Q) Q (InI.stb HJ.out W05.out.size) (InI.start J5.out) ?how (fun _ _ _ _ h hk=>h.soft hk)
  (fun z a' W=>∃Bx,W.heap[Bx]? =some (.cells #[.slice ra R.length rc,.slice (some ⟨z.2.lb,0,none⟩) z.2.Ls.length z.2.lc] 70 (0,0))∧a'={ tmps:=#[.func (.yield l) #[] #[],.pointer (some ⟨b,0,none⟩),.pointer (some ⟨b+1,0,none⟩),.pointer (some ⟨b+2,0,none⟩),.pointer (some ⟨w.heap.size,0,none⟩),.int .i64 (p:Int),.slice sa As.length sc,undef,.pointer (some ⟨Bx,0,none⟩),undef,dgV ra R.length rc lb Ls.length lc,.int .i64 v,.int .i64 (p:Int),dgV ra R.length rc lb Ls.length lc,.int .i64 (p:Int),.int .i64 most,.func (.func 89) #[] (mvCap b3),.slice sa As.length sc,.slice sa As.length sc,.func (.func 90) #[] #[.pointer (some ⟨w4.heap.size,0,none⟩)],.int .i64 (z.1:Int),dgV ra R.length rc z.2.lb z.2.Ls.length z.2.lc,undef,undef,undef,undef,undef,undef,undef,undef,undef,undef,undef,undef,undef],defers:=[] }) ?hax ?assign ?body ?done
 case how=>
  intro Q' w' hQ hb
  have key:∀j,j=w4.heap.size∨(Value.slice sa As.length sc).ownBlock=some j→¬Q' j:=fun j hj hq=>by
   have h1:=BW5.out.low hj
   have h2:w.heap.size≤j:=by
    have h3:=S34.out
    rcases hj with rfl|hj
    ·omega
    ·rcases BW5.out.row.2 with⟨q1,_⟩|⟨g',_,_,q1,q2,_⟩
     ·injection q1 with q1;subst q1;cases hj
     ·injection q1 with q1
      subst q1
      have hj':g'=j:=by simpa [Value.ownBlock] using hj
      omega
   rcases hQ j hq with h|h
   ·have:=QL.out j h
    omega
   ·omega
  exact BW5.out.rnd (Rnd.of_below (Q:=fun _=>False) hb) (fun _ _ h=>h) key
 case hax=>
  rintro z a' l' A A' ⟨Bx,h1,h2⟩ ⟨r,hr⟩ hk
  exact⟨Bx,(hk.block Bx (lt_of_obj h1) (fun e=>by rw[e,hr] at h1;cases h1)).trans h1,h2⟩
 case assign=>
  intro l' zs Q' z W K hi hx hK
  simp only[encP]
  gi_wp2
  exact hK _ _ (al (Below.refl _ _) _) ⟨W.heap.size,heap_alloc_new W _,rfl⟩
 case body=>
  rintro l' zs Q' z a' W hi hx ⟨Bx,hBx,rfl⟩
  obtain⟨hTW,_⟩:=hi.same T5.out (fun h=>absurd (QL.out _ h) (Nat.lt_irrefl _))
  have q4:W.cell? ⟨w.heap.size,0,none⟩=some (.func (.yield l) #[] #[]):=by rw[cell_of_row W _ _ _ _ _ hTW];rfl
  have q8:W.cell? ⟨Bx,0,none⟩=some (.slice ra R.length rc):=by rw[cell_of_row W _ _ _ _ _ hBx];rfl
  have q9:W.cell? ⟨Bx,1,none⟩=some (.slice (some ⟨z.2.lb,0,none⟩) z.2.Ls.length z.2.lc):=by rw[cell_of_row W _ _ _ _ _ hBx];rfl
  have PX:PxO S F ra R (zs.map (·.2)).length z.2 W:=by
   refine⟨hx.1,?_⟩
   have hmem:z.2∈As:=List.mem_reverse.1 (List.mem_of_getElem? hx.2.2)
   obtain⟨i,hi',e⟩:=List.getElem_of_mem hmem
   have:=(SA.out.1 i hi').1
   rwa [e] at this
  obtain⟨fn,tm,asg,bdy,hy,hR⟩:=HY.out (zs.map (·.2)) Q' z.2 W hi.1 PX
  simp only[encD] at hy
  have HI:=hide hi
  clear PX hTW hx hi hBx
  gi_wp2
  refine⟨rfl,RoundIn.mono (F:=Fence.wide.inRound l') hR ?_⟩
  rintro e w6 ⟨rfl,Q2,hj,hr,hq⟩
  have FIN:=hide (And.intro (HI.out.step (z:=z) (x:=z.2) (by simp) hj hr hq) (And.intro hr hq))
  clear hj hr hq hR hy
  gi_wp2
  exact⟨Q2,FIN.out.1,FIN.out.2.1,FIN.out.2.2⟩
 case done=>
  intro D1 zs Q' W hD hnD hS hi hdf
  have OW:Hid (Ot9 W Q' b ra rc R lb lc Ls v most):=O5.out.rnd hi.2.1 O5.out.nq (fun k h1 h2 hk=>by
   rcases hi.2.2 k hk with h|h
   ·exact O5.out.nq k h1 h2 h
   ·have:=O5.out.lt
    omega)
  obtain⟨hTW,hnT⟩:=hi.same T5.out (fun h=>absurd (QL.out _ h) (Nat.lt_irrefl _))
  have TW:=hide hTW
  have NT:=hide hnT
  have JW:Hid (J As.reverse Q' W):=by rw[←hS];exact hi.1
  have LW:Hid (∀k,Q' k→k<W.heap.size):=HJ.out.low _ _ _ hi.1
  have SZW:Hid (w.heap.size≤W.heap.size):=Nat.le_trans W05.out.size hi.2.1.size
  have DW:Hid (W.heap[D1]? =some (.deferred (some []))∧¬Q' D1∧w.heap.size≤D1):=⟨hdf,hnD,Nat.le_trans W05.out.size hD⟩
  clear hi hTW hnT hS hdf hnD hD O5 T5 J5 BW5
  obtain⟨c1,c2,c3,c4⟩:=OW.out.cells
  go_wp2_with (go_at_call 82;refine(moves_any (rc:=rc) (p:=p) (s:=1) (most:=most) OW.out.dg).mono ?_;rintro e w7 ⟨b7,rfl,hb7,hM7,x7⟩;have M7:=hide (hM7 Q' LW.out);have X7:=hide x7;clear hb7 hM7 x7)
  clear c1 c2 c3 c4
  have T7:=hide ((X7.out.block _ (lt_of_obj TW.out)).trans TW.out)
  have D7:=hide ((X7.out.block _ (lt_of_obj DW.out.1)).trans DW.out.1)
  have J7:=hide (HJ.out.its _ _ _ _ JW.out (Its.of_below X7.out))
  refine range_wp (gf:=89) (lb:=mvCap b7) rfl (enters_of Try.func89 (by kernel_rfl) rfl) (ITB.out b7) (fun _=>rfl) (InI J (fun xs=>As.reverse++xs) w7 Q') Q' (InI.stb HJ.out (Nat.le_trans SZW.out X7.out.size)) (InI.start (by rw[List.append_nil];exact J7.out)) ?how2 (fun _ _ _ _ h hk=>h.soft hk)
   (fun x a' W=>∃Bx,W.heap[Bx]? =some (.cells #[.slice ra R.length rc,.slice (some ⟨x.lb,0,none⟩) x.Ls.length x.lc] 70 (0,0))∧a'={ tmps:=#[.func (.yield l) #[] #[],.pointer (some ⟨b,0,none⟩),.pointer (some ⟨b+1,0,none⟩),.pointer (some ⟨b+2,0,none⟩),.pointer (some ⟨w.heap.size,0,none⟩),.int .i64 (p:Int),.slice sa As.length sc,undef,undef,.pointer (some ⟨Bx,0,none⟩),dgV ra R.length rc lb Ls.length lc,.int .i64 v,.int .i64 (p:Int),dgV ra R.length rc lb Ls.length lc,.int .i64 (p:Int),.int .i64 most,.func (.func 89) #[] (mvCap b3),.slice sa As.length sc,.slice sa As.length sc,.func (.func 90) #[] #[.pointer (some ⟨w4.heap.size,0,none⟩)],undef,undef,undef,undef,undef,undef,dgV ra R.length rc lb Ls.length lc,.int .i64 (p:Int),.int .i64 most,.func (.func 89) #[] (mvCap b7),dgV ra R.length rc x.lb x.Ls.length x.lc,undef,undef,undef,undef],defers:=[] }) ?hax2 ?assign2 ?body2 ?done2
  case how2=>
   intro Q2 w' hQ hb
   refine M7.out.rnd (Rnd.of_below (Q:=fun _=>False) hb) (fun _ _ _ h=>h) (fun k h1 h2 hk=>?_)
   rcases hQ k hk with h|h
   ·exact M7.out.nq k h1 h2 h
   ·have:=M7.out.lt
    omega
  case hax2=>
   rintro x a' l' A A' ⟨Bx,h1,h2⟩ ⟨r,hr⟩ hk
   exact⟨Bx,(hk.block Bx (lt_of_obj h1) (fun e=>by rw[e,hr] at h1;cases h1)).trans h1,h2⟩
  case assign2=>
   intro l' xs Q2 x W2 K hi hx hK
   simp only[encD]
   gi_wp2
   exact hK _ _ (al (Below.refl _ _) _) ⟨W2.heap.size,heap_alloc_new W2 _,rfl⟩
  case body2=>
   rintro l' xs Q2 x a' W2 hi hx ⟨Bx,hBx,rfl⟩
   obtain⟨hTW,_⟩:=hi.same T7.out NT.out
   have q4:W2.cell? ⟨w.heap.size,0,none⟩=some (.func (.yield l) #[] #[]):=by rw[cell_of_row W2 _ _ _ _ _ hTW];rfl
   have q8:W2.cell? ⟨Bx,0,none⟩=some (.slice ra R.length rc):=by rw[cell_of_row W2 _ _ _ _ _ hBx];rfl
   have q9:W2.cell? ⟨Bx,1,none⟩=some (.slice (some ⟨x.lb,0,none⟩) x.Ls.length x.lc):=by rw[cell_of_row W2 _ _ _ _ _ hBx];rfl
   have PX:PxO S F ra R (As.reverse++xs).length x W2:=⟨hx.1,hx.2.1⟩
   obtain⟨fn,tm,asg,bdy,hy,hR⟩:=HY.out (As.reverse++xs) Q2 x W2 hi.1 PX
   simp only[encD] at hy
   have HI:=hide hi
   clear PX hTW hx hi hBx
   gi_wp2
   refine⟨rfl,RoundIn.mono (F:=Fence.wide.inRound l') hR ?_⟩
   rintro e w6 ⟨rfl,Q3,hj,hr,hq⟩
   have FIN:=hide (And.intro (HI.out.step (z:=x) (x:=x) (by simp) hj hr hq) (And.intro hr hq))
   clear hj hr hq hR hy
   gi_wp2
   exact⟨Q3,FIN.out.1,FIN.out.2.1,FIN.out.2.2⟩
  case done2=>
   intro D2 Bs Q2 W2 hD2 hnD2 hS2 hi2 hdf2
   obtain⟨hd1,hn1⟩:=hi2.same D7.out DW.out.2.1
   have HI2:=hide hi2
   have SZ2:Hid (w.heap.size≤D2):=Nat.le_trans (Nat.le_trans SZW.out X7.out.size) hD2
   have NE:Hid (D1≠D2):=fun e=>by have:=lt_of_obj D7.out;omega
   clear hi2
   go_wp2
   have r2:Rnd (fun b=>b=D2) W2 (W2.putObj D2 (.deferred none)):=Rnd.putObj _ rfl (soft_other hdf2 (fun _ _ _ h=>by cases h))
   have hd1':(W2.putObj D2 (.deferred none)).heap[D1]? =some (.deferred (some [])):=(r2.same (lt_of_obj hd1) NE.out).trans hd1
   have r1:Rnd (fun b=>b=D1) (W2.putObj D2 (.deferred none)) ((W2.putObj D2 (.deferred none)).putObj D1 (.deferred none)):=Rnd.putObj _ rfl (soft_other hd1' (fun _ _ _ h=>by cases h))
   refine⟨by simp,.inl ⟨_,_,rfl,run_takeDeferred hdf2,⟨by simp,.inl ⟨_,_,rfl,run_takeDeferred hd1',?_⟩⟩⟩⟩
   refine⟨_,results_none rfl _ _ _,⟨_,rfl⟩,As.reverse++Bs,Q2,⟨As,Bs,SA.out,hS2,rfl⟩,?_⟩
   refine HJ.out.its _ _ _ _ (HJ.out.its _ _ _ _ HI2.out.1 (r2.its (fun b hb=>⟨by rw[hb];exact SZ2.out,by rw[hb];exact hnD2⟩))) (r1.its (fun b hb=>⟨by rw[hb];exact DW.out.2.2,by rw[hb];exact hn1⟩))
end
def cntR (Rs:List RD):Nat:=((rdR Rs).filter fun r=>decide (1<r.length)).length
theorem cntR_snoc (Rs:List RD) (x:RD):cntR (Rs++[x])=cntR Rs+if 1<x.r.length then 1 else 0:=by
 unfold cntR rdR
 rw[List.map_append,List.filter_append,List.length_append]
 congr 1
 by_cases h:1<x.r.length<;>simp[h]
theorem nodesL_snoc:∀(A:List Lay) (l:Lay),nodesL (A++[l])=nodesL A+(l.2.filter fun r=>decide (1<r.length)).length
 |[],l=>by simp[nodesL]
 |a::A,l=>by
  rw[List.cons_append,nodesL,nodesL,nodesL_snoc A l]
  omega
section
variable {w:World} {B lb lc rc:Nat} {ra:Option Addr} {R:List Int} {Ls:List LA}
set_option maxRecDepth 100000 in
set_option maxHeartbeats 2000000 in
theorem nodes_any (hl:Ls.length≤12) (D:DgX w B ra lb lc R Ls):
 Calls Try.prog 70 #[dgV ra R.length rc lb Ls.length lc] w fun e w'=>e=.returned (.int .i64 (nodesL (layL Ls):Nat))∧Below w.heap.size w w':=by
 have HD:=hide D
 have hBw:=D.hB
 have X1:Hid (Below w.heap.size w (w.alloc (.cells #[.slice ra R.length rc,.slice (some ⟨lb,0,none⟩) Ls.length lc] 70))):=al (Below.refl _ _) _
 have D1:Hid ((w.alloc (.cells #[.slice ra R.length rc,.slice (some ⟨lb,0,none⟩) Ls.length lc] 70)).heap[w.heap.size]? =some (.cells #[.slice ra R.length rc,.slice (some ⟨lb,0,none⟩) Ls.length lc] 70 (0,0))):=heap_alloc_new w _
 clear D
 go_enter Try.func70,Try.ntmps70
 go_upto_region 2 with fail
 generalize w.alloc (.cells #[.slice ra R.length rc,.slice (some ⟨lb,0,none⟩) Ls.length lc] 70)=w1 at *
 have d1:w1.cell? ⟨w.heap.size,1,none⟩=some (.slice (some ⟨lb,0,none⟩) Ls.length lc):=by rw[cell_of_row w1 _ _ _ _ _ D1.out];rfl
 go_wp2
 clear d1
 go_loopw [3,11] (fun v x wr=>∃k:Nat,k≤Ls.length∧x=.int .i64 (k:Int)∧∃c:Nat,v=.int .i64 (c:Int)∧Hid (c=nodesL (layL (Ls.take k)))∧Hid (c≤k*1073741824)∧Hid (Below w.heap.size w wr)) (fun _ x _=>Ls.length-(RowKit.intOf x).toNat)
 case atStart=>exact⟨0,Nat.zero_le _,rfl,0,rfl,hide (by simp[nodesL]),hide (by omega),X1⟩
 case round=>
  obtain⟨k,hk,rfl,c,rfl,HC,HCL,XK⟩:=hrel
  clear X1
  by_cases hlt:k<Ls.length
  ·have hlt':(k:Int)<(Ls.length:Int):=by omega
   obtain⟨q0,q1⟩:=(HD.out.below (XK.out.mono hBw)).lay.at0 hlt
   have hrf:=(HD.out.lay.ly _ (List.getElem_mem hlt)).few
   have Y1:Hid (Below wr.heap.size wr (wr.alloc (.cells #[.int .i64 (Ls[k]).lv,.slice (some ⟨(Ls[k]).rb,0,none⟩) (Ls[k]).Rs.length (Ls[k]).rc] 105))):=al (Below.refl _ _) _
   have p0:(wr.alloc (.cells #[.int .i64 (Ls[k]).lv,.slice (some ⟨(Ls[k]).rb,0,none⟩) (Ls[k]).Rs.length (Ls[k]).rc] 105)).cell? ⟨wr.heap.size,1,none⟩=some (.slice (some ⟨(Ls[k]).rb,0,none⟩) (Ls[k]).Rs.length (Ls[k]).rc):=by simp
   go_upto_region 5 with fail
   clear q0 q1
   have X3:=hide (bt XK.out Y1.out (Nat.le_refl _))
   generalize wr.alloc (.cells #[.int .i64 (Ls[k]).lv,.slice (some ⟨(Ls[k]).rb,0,none⟩) (Ls[k]).Rs.length (Ls[k]).rc] 105)=w3 at *
   go_wp2
   clear p0
   have hcl:=HCL.out
   go_loopw [3,18] (fun v x wx=>∃j:Nat,j≤(Ls[k]).Rs.length∧x=.int .i64 (j:Int)∧∃d:Nat,v=.int .i64 (d:Int)∧Hid (d=c+cntR ((Ls[k]).Rs.take j))∧Hid (d≤c+j)∧Hid (Below w.heap.size w wx)) (fun _ x _=>(Ls[k]).Rs.length-(RowKit.intOf x).toNat)
   case atStart=>exact⟨0,Nat.zero_le _,rfl,c,rfl,hide (by simp[cntR,rdR]),hide (by omega),X3⟩
   case round=>
    obtain⟨j,hj,rfl,d,rfl,HDD,HDL,XJ⟩:=hrel
    have hdl:=HDL.out
    by_cases hjl:j<(Ls[k]).Rs.length
    ·have hjl':(j:Int)<((Ls[k]).Rs.length:Int):=by omega
     have r0:=((HD.out.below (XJ.out.mono hBw)).lay.ly _ (List.getElem_mem hlt)).cell hjl
     have HT:Hid (cntR ((Ls[k]).Rs.take (j+1))=cntR ((Ls[k]).Rs.take j)+if 1<((Ls[k]).Rs[j]).r.length then 1 else 0):=by unfold Hid;rw[List.take_succ_eq_append_getElem hjl,cntR_snoc]
     have e1:IntKind.i64.wrap ((d:Int)+1)=((d+1:Nat):Int):=by simp[IntKind.wrap,IntKind.bits,IntKind.signed];omega
     by_cases hm:1<((Ls[k]).Rs[j]).r.length
     ·have hm':(1:Int)<(((Ls[k]).Rs[j]).r.length:Int):=by omega
      rw[if_pos hm] at HT
      go_wp2
      go_roundw
      case rel=>exact⟨j+1,by omega,by go_num,d+1,by go_num,hide (by rw[HT.out,HDD.out];omega),hide (by omega),XJ⟩
      case measure=>simp[RowKit.intOf];omega
     ·have hm':¬(1:Int)<(((Ls[k]).Rs[j]).r.length:Int):=by omega
      rw[if_neg hm] at HT
      go_wp2
      go_roundw
      case rel=>exact⟨j+1,by omega,by go_num,d,rfl,hide (by rw[HT.out,HDD.out];omega),hide (by omega),XJ⟩
      case measure=>simp[RowKit.intOf];omega
    ·have hjl':¬(j:Int)<((Ls[k]).Rs.length:Int):=by omega
     have hje:j=(Ls[k]).Rs.length:=by omega
     have HJ:=hide hje
     clear hje
     go_wp2
     go_roundw
     case rel=>
      have hd:=HDD.out
      rw[HJ.out,List.take_length] at hd
      refine⟨k+1,by omega,by go_num,d,rfl,hide ?_,hide ?_,XJ⟩
      ·rw[hd,HC.out,List.take_succ_eq_append_getElem hlt]
       show _=nodesL (layL (Ls.take k++[Ls[k]]))
       rw[show layL (Ls.take k++[Ls[k]])=layL (Ls.take k)++[(Ls[k]).lay] from List.map_append,nodesL_snoc]
       rfl
      ·rw[Nat.succ_mul];omega
     case measure=>simp[RowKit.intOf];omega
  ·have hlt':¬(k:Int)<(Ls.length:Int):=by omega
   obtain rfl:k=Ls.length:=by omega
   go_wp2
   go_ret
   have:=HC.out
   rw[List.take_length] at this
   exact⟨by rw[this];rfl,XK.out⟩
end
section
variable {P:Program} {ops:Array Oper} {Q:Exit→Act→World→Prop} {md:Region.Mode} {S:World→Prop} {z:Nat}
theorem UntH.three {i j k n:Nat} {oi oj ok:Oper} {done:Array Bool} {a:Act} {w:World} (hr:Region.ready md ops done=[i,j,k]) (hi:ops[i]? =some oi) (hj:ops[j]? =some oj) (hk:ops[k]? =some ok)
 (h1:∀K':Act→World→Prop,Shut (∀a w,S w→UntH P md ops Q S z n (done.setIfInBounds i true) a w→K' a w)→if Region.wanted oi (yielded ops a.tmps)=true then Oper.wp P oi a w K' Q else K' (a.put oi.dst undef) w)
 (h2:∀K':Act→World→Prop,Shut (∀a w,S w→UntH P md ops Q S z n (done.setIfInBounds j true) a w→K' a w)→if Region.wanted oj (yielded ops a.tmps)=true then Oper.wp P oj a w K' Q else K' (a.put oj.dst undef) w)
 (h3:∀K':Act→World→Prop,Shut (∀a w,S w→UntH P md ops Q S z n (done.setIfInBounds k true) a w→K' a w)→if Region.wanted ok (yielded ops a.tmps)=true then Oper.wp P ok a w K' Q else K' (a.put ok.dst undef) w):UntH P md ops Q S z (n+1) done a w:=
 ⟨fun h0=>(by rw[hr] at h0;cases h0),fun m hm=>by
   rw[hr] at hm
   rcases List.mem_cons.1 hm with rfl|hm
   ·exact wpOp_step hi (fun K' hK=>h1 K' (fun a w h3 h4=>hK a w ⟨fun _=>h3,h4⟩))
   ·rcases List.mem_cons.1 hm with rfl|hm
    ·exact wpOp_step hj (fun K' hK=>h2 K' (fun a w h3 h4=>hK a w ⟨fun _=>h3,h4⟩))
    ·rcases List.mem_cons.1 hm with rfl|hm
     ·exact wpOp_step hk (fun K' hK=>h3 K' (fun a w h3 h4=>hK a w ⟨fun _=>h3,h4⟩))
     ·cases hm⟩
end
def bstF (y:DX×Int) (xs:List DX):DX×Int:=xs.foldl (fun y x=>if (nodesL (layL x.Ls):Int)<y.2 then(x,(nodesL (layL x.Ls):Int)) else y) y
theorem bstF_push (y:DX×Int) (xs:List DX) (x:DX):bstF y (xs++[x])=if (nodesL (layL x.Ls):Int)<(bstF y xs).2 then(x,(nodesL (layL x.Ls):Int)) else bstF y xs:=by
 unfold bstF
 rw[List.foldl_append]
 rfl
structure BsI (w5:World) (oa ob:Nat) (S:List Int) (F:List Phi) (ra:Option Addr) (rc:Nat) (R:List Int) (y0:DX×Int) (xs:List DX) (Q:Nat→Prop) (wr:World):Prop where
 ca:wr.heap[oa]? =some (.cells #[.slice ra R.length rc,.slice (some ⟨(bstF y0 xs).1.lb,0,none⟩) (bstF y0 xs).1.Ls.length (bstF y0 xs).1.lc] 70 (0,0))
 cb:wr.heap[ob]? =some (.cells #[.int .i64 (bstF y0 xs).2] 3 (0,0))
 px:PxO S F ra R 0 (bstF y0 xs).1 wr
 q:∀b,Q b↔b=oa∨b=ob
 rn:Rnd Q w5 wr
section
variable {w5 wr:World} {oa ob:Nat} {S:List Int} {F:List Phi} {ra:Option Addr} {rc:Nat} {R:List Int} {y0:DX×Int} {xs:List DX} {Q:Nat→Prop}
theorem soft3 {c:Nat} {v:Int} (h:wr.heap[c]? =some (.cells #[.int .i64 v] 3 (0,0))):Soft wr c:=fun cs t z e=>by
 rw[h] at e
 cases e
 refine .inr ⟨rfl,fun j u hu=>?_⟩
 rcases j with _|j
 ·exact⟨_,(Option.some.inj hu).symm⟩
 ·simp at hu
theorem BsI.stb (_:True):Stb w5.heap.size (BsI w5 oa ob S F ra rc R y0):=by
 refine⟨fun xs Q A A' h k=>?_,fun xs Q A h b hb=>?_⟩
 ·have hk:=Its.rnd k
  exact⟨(hk.same (lt_of_obj h.ca) (fun hh=>hh.2 ((h.q _).2 (.inl rfl)))).trans h.ca,(hk.same (lt_of_obj h.cb) (fun hh=>hh.2 ((h.q _).2 (.inr rfl)))).trans h.cb,h.px.soft hk.any,h.q,h.rn.trans_new hk (fun b hb hh=>by have:=hh.1;omega)⟩
 ·rcases (h.q b).1 hb with rfl|rfl
  ·exact lt_of_obj h.ca
  ·exact lt_of_obj h.cb
theorem BsI.stay {x:DX} {w':World} (h:BsI w5 oa ob S F ra rc R y0 xs Q wr) (y:Below wr.heap.size wr w') (hn:¬(nodesL (layL x.Ls):Int)<(bstF y0 xs).2):BsI w5 oa ob S F ra rc R y0 (xs++[x]) Q w':=by
 have e:=bstF_push y0 xs x
 rw[if_neg hn] at e
 refine⟨?_,?_,?_,h.q,h.rn.trans (Rnd.of_below y)⟩
 ·rw[e];exact(y.block _ (lt_of_obj h.ca)).trans h.ca
 ·rw[e];exact(y.block _ (lt_of_obj h.cb)).trans h.cb
 ·rw[e];exact h.px.soft (Kept.of_below y)
theorem BsI.take {x:DX} {w' w'':World} (h:BsI w5 oa ob S F ra rc R y0 xs Q wr) (y:Below wr.heap.size wr w') (hx:PxO S F ra R 0 x wr) (hn:(nodesL (layL x.Ls):Int)<(bstF y0 xs).2) (hne:oa≠ob)
 (e2:w''=((w'.setCell ⟨oa,0,none⟩ (.slice ra R.length rc)).setCell ⟨oa,1,none⟩ (.slice (some ⟨x.lb,0,none⟩) x.Ls.length x.lc)).setCell ⟨ob,0,none⟩ (.int .i64 (nodesL (layL x.Ls):Int))):BsI w5 oa ob S F ra rc R y0 (xs++[x]) Q w''∧Rnd Q wr w'':=by
 have e:=bstF_push y0 xs x
 rw[if_pos hn] at e
 have a1:=(y.block _ (lt_of_obj h.ca)).trans h.ca
 have b1:=(y.block _ (lt_of_obj h.cb)).trans h.cb
 have a2:=block_setCell a1 0 (.slice ra R.length rc)
 have a3:=block_setCell a2 1 (.slice (some ⟨x.lb,0,none⟩) x.Ls.length x.lc)
 have r1:Rnd Q w' (w'.setCell ⟨oa,0,none⟩ (.slice ra R.length rc)):=Rnd.setCell (p:=⟨oa,0,none⟩) ((h.q _).2 (.inl rfl)) (soft70 a1) _
 have r2:Rnd Q (w'.setCell ⟨oa,0,none⟩ (.slice ra R.length rc)) ((w'.setCell ⟨oa,0,none⟩ (.slice ra R.length rc)).setCell ⟨oa,1,none⟩ (.slice (some ⟨x.lb,0,none⟩) x.Ls.length x.lc)):=Rnd.setCell (p:=⟨oa,1,none⟩) ((h.q _).2 (.inl rfl)) (soft70 (by simpa using a2)) _
 have k2:Kept (fun z=>z=oa) w' ((w'.setCell ⟨oa,0,none⟩ (.slice ra R.length rc)).setCell ⟨oa,1,none⟩ (.slice (some ⟨x.lb,0,none⟩) x.Ls.length x.lc)):=((Kept.refl (fun z=>z=oa) w').setCell (p:=⟨oa,0,none⟩) rfl _).setCell (p:=⟨oa,1,none⟩) rfl _
 have b3:=(k2.block ob (lt_of_obj b1) (fun e=>hne e.symm)).trans b1
 generalize (w'.setCell ⟨oa,0,none⟩ (.slice ra R.length rc)).setCell ⟨oa,1,none⟩ (.slice (some ⟨x.lb,0,none⟩) x.Ls.length x.lc)=w3 at *
 have r3:Rnd Q w3 w'':=by rw[e2];exact Rnd.setCell (p:=⟨ob,0,none⟩) ((h.q _).2 (.inr rfl)) (soft3 b3) _
 have k3:Kept (fun z=>z=ob) w3 w'':=by rw[e2];exact(Kept.refl (fun z=>z=ob) w3).setCell (p:=⟨ob,0,none⟩) rfl _
 have r:Rnd Q wr w'':=(((Rnd.of_below y).trans r1).trans r2).trans r3
 refine⟨⟨?_,?_,?_,h.q,h.rn.trans r⟩,r⟩
 ·rw[e]
  refine(k3.block oa (lt_of_obj a3) hne).trans ?_
  simpa using a3
 ·rw[e,e2]
  have:=block_setCell b3 0 (.int .i64 (nodesL (layL x.Ls):Int))
  simpa using this
 ·rw[e]
  exact hx.soft r.any
end
end Go.Proofs.Ytnddhkhmbjeefaa

