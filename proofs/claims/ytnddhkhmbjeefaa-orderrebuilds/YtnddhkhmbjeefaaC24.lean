/-
  build: the rooms for what is known of the rows. No condition.
-/
import Derived.Test.YtnddhkhmbjeefaaC23
import Derived.Test.YtnddhkhmbjeefaaC18
import Derived.Test.YtnddhkhmbjeefaaC15
import Derived.Test.YtnddhkhmbjeefaaC17
namespace Go.Proofs.Ytnddhkhmbjeefaa
open Go.RowKit Go.Lib Go.Maps
theorem Try.info22b:(Try.prog.info? 22).map (fun i=>(i.zero,i.size,i.bytes))=some (some (.slice none 0 0),1,24):=by kernel_rfl
abbrev lensL (Ls:List LA):List Nat:=Ls.map fun x=>x.Rs.length
structure Bd1 (w3 wr:World) (x:BdA) (Ls:List LA) (k:Nat) (mv:Value) (mr:Nat→Nat):Prop where
 blk:wr.heap[x.b]? =some (.cells #[.pointer (some ⟨x.a,0,none⟩),.slice (some ⟨x.lb,0,none⟩) Ls.length x.lc,.slice (some ⟨x.sb,0,none⟩) Ls.length x.sc,mv] 122 (0,0))
 row:wr.ownsRow w3.heap.size 22 1 mv k ((List.range k).map fun i=>.slice (some ⟨mr i,0,none⟩) ((lensL Ls).getD i 0) ((lensL Ls).getD i 0))
 mad:∀i,i<k→RwZ wr (mr i) (List.replicate ((lensL Ls).getD i 0) 0)
 new:∀i,i<k→w3.heap.size≤mr i
 inj:∀i j,i<k→j<k→mr i=mr j→i=j
 bel:Below w3.heap.size w3 wr
 hb:w3.heap.size≤x.b
section
variable {w3 wr w4 w5 w6:World} {x:BdA} {Ls:List LA} {k:Nat} {mv:Value} {mr:Nat→Nat}
theorem Bd1.below (h:Bd1 w3 wr x Ls k mv mr) (y:Below wr.heap.size wr w4):Bd1 w3 w4 x Ls k mv mr:=
 ⟨(y.block _ (lt_of_block h.blk)).trans h.blk,own_below h.row y,fun i hi=>(h.mad i hi).below y,h.new,h.inj,bt h.bel y (Nat.le_refl _),h.hb⟩
theorem Bd1.step (h:Bd1 w3 wr x Ls k mv mr) {nb:Nat} (hn:wr.heap.size≤nb) (y:Below wr.heap.size wr w5) (z:RwZ w5 nb (List.replicate ((lensL Ls).getD k 0) 0)) {g cap:Nat} (o:w6.ownsRow w3.heap.size 22 1 (.slice (some ⟨g,0,none⟩) (k+1) cap) (k+1) (((List.range k).map fun i=>.slice (some ⟨mr i,0,none⟩) ((lensL Ls).getD i 0) ((lensL Ls).getD i 0))++[.slice (some ⟨nb,0,none⟩) ((lensL Ls).getD k 0) ((lensL Ls).getD k 0)])) (gr:w5.grownBy w6 mv.ownBlock):
 Bd1 w3 (w6.setCell ⟨x.b,3,none⟩ (.slice (some ⟨g,0,none⟩) (k+1) cap)) x Ls (k+1) (.slice (some ⟨g,0,none⟩) (k+1) cap) (fun i=>if i=k then nb else mr i):=by
 have h5:=h.below y
 have k6:Kept (fun q=>mv.ownBlock=some q) w5 w6:=kept_of_grown gr
 have nt:∀ {q:Nat} {cs:Array Value} {T:TypeId},w5.heap[q]? =some (.cells cs T (0,0))→T≠22→w6.heap[q]? =some (.cells cs T (0,0)):=fun {q cs T} hb hT=>(k6.block q (lt_of_block hb) (fun hz=>by
  obtain⟨cs',h5'⟩:=own_ty h5.row _ hz
  exact ty_ne h5' hb (fun e=>hT e.symm) rfl)).trans hb
 have b6:=nt h5.blk (by decide)
 have k7:Kept (fun q=>q=x.b) w6 (w6.setCell ⟨x.b,3,none⟩ (.slice (some ⟨g,0,none⟩) (k+1) cap)):=Kept.setCell (F:=fun q=>q=x.b) (p:=⟨x.b,3,none⟩) (Kept.refl _ _) rfl _
 have m7:∀ {q:Nat} {L:List Int},RwZ w5 q L→RwZ (w6.setCell ⟨x.b,3,none⟩ (.slice (some ⟨g,0,none⟩) (k+1) cap)) q L:=fun {q L} hq=>by
  have q6:RwZ w6 q L:=nt hq (by decide)
  exact q6.kept k7 (fun e=>ty_ne q6 b6 (by decide) e)
 have bel6:Below w3.heap.size w3 w6:=h5.bel.trans (k6.below h5.bel.size (fun q hq=>(World.ownsRow.lt h5.row q hq).1))
 refine⟨?_,?_,fun i hi=>?_,fun i hi=>?_,fun i j hi hj e=>?_,bel6.trans (k7.below bel6.size (fun q hq=>by rw[hq];exact h.hb)),h.hb⟩
 ·have:=block_setCell b6 3 (.slice (some ⟨g,0,none⟩) (k+1) cap)
  simpa using this
 ·have e:((List.range (k+1)).map fun i=>(Value.slice (some ⟨if i=k then nb else mr i,0,none⟩) ((lensL Ls).getD i 0) ((lensL Ls).getD i 0)))=((List.range k).map fun i=>.slice (some ⟨mr i,0,none⟩) ((lensL Ls).getD i 0) ((lensL Ls).getD i 0))++[.slice (some ⟨nb,0,none⟩) ((lensL Ls).getD k 0) ((lensL Ls).getD k 0)]:=by
   rw[List.range_succ,List.map_append]
   congr 1
   ·refine List.map_congr_left (fun i hi=>?_)
    have:=List.mem_range.1 hi
    rw[if_neg (by omega)]
   ·simp
  rw[e]
  exact own_kept o k7 (fun q hq e=>by
   obtain⟨cs',h5'⟩:=own_ty o _ hq
   exact ty_ne h5' b6 (by decide) e)
 ·by_cases e:i=k
  ·subst e
   simp only[if_true]
   exact m7 z
  ·simp only[if_neg e]
   exact m7 (h5.mad i (by omega))
 ·by_cases e:i=k
  ·simp only[if_pos e];exact Nat.le_trans h.bel.size hn
  ·simp only[if_neg e];exact h.new i (by omega)
 ·by_cases ei:i=k<;>by_cases ej:j=k
  ·omega
  ·simp only[if_pos ei,if_neg ej] at e
   have:=(h.mad j (by omega)).lt
   omega
  ·simp only[if_neg ei,if_pos ej] at e
   have:=(h.mad i (by omega)).lt
   omega
  ·simp only[if_neg ei,if_neg ej] at e
   exact h.inj i j (by omega) (by omega) e
theorem Bd1.bdx {b a lb lc sb sc mc B:Nat} {ma:Option Addr} {S:List Int} {M:Int} {P:Nat→Prop} (h:Bd1 w3 wr ⟨b,a,lb,lc,sb,sc,0,0,fun _=>0,fun _=>0⟩ Ls Ls.length (.slice ma Ls.length mc) mr) (hn:0<Ls.length) (hB:B≤w3.heap.size) (lay:LaysAt w3 B lb 0 Ls) (sz:ZBk w3 sb (ledS S (ordL Ls))) (hsb:¬P sb) (ar:CA w3 a (ledS S (ordL Ls)) M [] 0 P) (hp:∀k,P k→B≤k):
 ∃mb,ma=some ⟨mb,0,none⟩∧BdX wr B ⟨b,a,lb,lc,sb,sc,mb,mc,mr,fun i=>(lensL Ls).getD i 0⟩ S M Ls [] (fun i=>List.replicate ((lensL Ls).getD i 0) 0) P:=by
 obtain⟨ao,cap,e,hg⟩:=own_shape h.row
 injection e with e1 _ e3
 subst e1 e3
 obtain⟨mb,rfl⟩:=hg hn
 have hmb:=World.ownsRow.lt h.row mb rfl
 have hlen:∀i (hi:i<Ls.length),(lensL Ls).getD i 0=(Ls[i]).Rs.length:=fun i hi=>by simp[lensL,List.getD_eq_getElem?_getD,List.getElem?_map,List.getElem?_eq_getElem hi]
 obtain⟨cs,hcs⟩:=own_ty h.row mb rfl
 have hsz:=sz.lt
 have np:∀ {q:Nat},w3.heap.size≤q→¬P q:=fun hq hp'=>by
  have:=ar.plt hp'
  omega
 refine⟨mb,rfl,⟨h.blk,lay.below (h.bel.mono hB),sz.below h.bel,⟨cs,hcs,fun i hi=>?_⟩,fun i hi=>⟨(h.mad i hi).zbk,by rw[List.length_replicate];exact hlen i hi⟩,ar.below h.bel,⟨np h.hb,hsb,np hmb.1⟩,fun i hi=>np (h.new i hi),hp,Nat.le_trans hB h.bel.size,h.inj,fun i hi=>⟨Nat.le_trans hB (h.new i hi),fun e=>?_⟩,fun i hi t ht=>.inl ?_⟩⟩
 ·have c:=World.ownsRow.cellAt h.row i (by omega)
  rw[cell_of_row wr mb _ _ _ _ hcs] at c
  rw[c]
  rw[List.getElem?_map,List.getElem?_range hi,Option.map_some]
  show some (Value.slice (some ⟨mr i,0,none⟩) ((lensL Ls).getD i 0) ((lensL Ls).getD i 0))=some (Value.slice (some ⟨mr i,0,none⟩) (Ls[i]).Rs.length ((lensL Ls).getD i 0))
  rw[hlen i hi]
 ·have:=h.new i hi
  have e':mr i=sb:=e
  omega
 ·rw[List.length_replicate] at ht
  rw[List.getD_eq_getElem?_getD,List.getElem?_replicate,if_pos ht]
  rfl
end
def BuL (S:List Int) (M:Int) (R:List Int) (Ls:List LA) (w:World) (e:Ending) (w':World):Prop:=
 (((kidsF (ins (ledS S (ordL Ls)) M) [] (R.map (rowF (ordL Ls) (layL Ls)))).2.1=0∧∃a g c P,e=.returned (.tuple #[.pointer (some ⟨a,0,none⟩),.slice (some ⟨g,0,none⟩) R.length c,.int .i64 0])∧RwZ w' g (kidsF (ins (ledS S (ordL Ls)) M) [] (R.map (rowF (ordL Ls) (layL Ls)))).1∧CA w' a (ledS S (ordL Ls)) M (kidsF (ins (ledS S (ordL Ls)) M) [] (R.map (rowF (ordL Ls) (layL Ls)))).2.2 (kidsF (ins (ledS S (ordL Ls)) M) [] (R.map (rowF (ordL Ls) (layL Ls)))).2.2.length P∧(∀k,P k→w.heap.size≤k)∧¬P g∧w.heap.size≤g∧c=R.length)∨
  ((kidsF (ins (ledS S (ordL Ls)) M) [] (R.map (rowF (ordL Ls) (layL Ls)))).2.1≠0∧e=.returned (.tuple #[.pointer none,.slice none 0 0,.int .i64 (kidsF (ins (ledS S (ordL Ls)) M) [] (R.map (rowF (ordL Ls) (layL Ls)))).2.1])))∧Below w.heap.size w w'
structure Bd2 (wb wr:World) (x:BdA) (S:List Int) (M:Int) (R:List Int) (Ls:List LA) (rk k:Nat) (ks:List Int) (N1:List Nd) (V1:Nat→List Int) (P1:Nat→Prop):Prop where
 bd:BdX wr wb.heap.size x S M Ls N1 V1 P1
 rt:RwZ wr rk (ks++List.replicate (R.length-k) 0)
 len:ks.length=k
 kf:kidsF (ins (ledS S (ordL Ls)) M) [] ((R.take k).map (rowF (ordL Ls) (layL Ls)))=(ks,0,N1)
 np:¬P1 rk
 bel:Below wb.heap.size wb wr
section
variable {w:World} {B lb lc rc:Nat} {ra:Option Addr} {R:List Int} {Ls:List LA} {S:List Int} {M:Int}
set_option maxRecDepth 100000 in
set_option maxHeartbeats 4000000 in
theorem build_any (hS:SzOk S) (hW:Wf S (layL Ls)) (hLn:Ls.length=S.length) (h0:0≤M) (h1:M≤8192) (D:DgX w B ra lb lc R Ls) (hR:∀r∈R,inW (layL Ls) r) (hRl:R.length≤268435456) (hrl:∀y∈Ls,y.Rs.length≤16777217):
 Calls Try.prog 34 #[dgV ra R.length rc lb Ls.length lc,.int .i64 M] w fun e w'=>BuL S M R Ls w e w':=by
 obtain⟨i22,hi22,hz220,hz221,hz222⟩:=info_parts Try.info22b
 have hl12:Ls.length≤12:=by rw[hLn];exact hS.le
 have X1:Hid (Below w.heap.size w (w.alloc (.cells #[.slice ra R.length rc,.slice (some ⟨lb,0,none⟩) Ls.length lc] 70))):=al (Below.refl _ _) _
 have D1:Hid ((w.alloc (.cells #[.slice ra R.length rc,.slice (some ⟨lb,0,none⟩) Ls.length lc] 70)).heap[w.heap.size]? =some (.cells #[.slice ra R.length rc,.slice (some ⟨lb,0,none⟩) Ls.length lc] 70 (0,0))):=heap_alloc_new w _
 have eSO:Hid ((Ls.map fun y=>szL S y.lv)=ledS S (ordL Ls)):=by unfold Hid;simp[ledS,ordL,LA.lay]
 have SOK:Hid (SzOk (ledS S (ordL Ls))):=ledS_ok hS (hW.ord (by rw[List.length_map];exact hLn))
 have SOL:Hid ((ledS S (ordL Ls)).length=Ls.length):=by unfold Hid;rw[ledS,List.length_map,List.length_map,List.length_map]
 have HD:=hide ((D.below (X1.out.mono D.hB)).mono (Nat.le_trans D.hB X1.out.size) (Nat.le_refl _))
 have HW:=hide hW
 have HSZ:=hide hS
 have HRI:=hide hR
 have HRL:=hide hrl
 have HLN:=hide hLn
 clear D hW hS hR hrl hLn
 go_enter Try.func34,Try.ntmps34
 go_upto_region 1 with fail
 have SZB:Hid (w.heap.size<(w.alloc (.cells #[.slice ra R.length rc,.slice (some ⟨lb,0,none⟩) Ls.length lc] 70)).heap.size):=lt_of_block D1.out
 generalize w.alloc (.cells #[.slice ra R.length rc,.slice (some ⟨lb,0,none⟩) Ls.length lc] 70)=wb at *
 have BXA:Hid (∀V,Below wb.heap.size wb V→V.cell? ⟨w.heap.size,0,none⟩=some (.slice ra R.length rc)∧V.cell? ⟨w.heap.size,1,none⟩=some (.slice (some ⟨lb,0,none⟩) Ls.length lc)):=fun V y=>by
  have b:=(y.block _ SZB.out).trans D1.out
  exact⟨by rw[cell_of_row V _ _ _ _ _ b];rfl,by rw[cell_of_row V _ _ _ _ _ b];rfl⟩
 obtain⟨d0,d1⟩:=BXA.out wb (Below.refl _ _)
 go_upto_region 2 with(go_at_call 62;refine(dsizes_any HSZ.out hl12 HW.out HD.out).mono ?_;rintro en w1 ⟨sb,rfl,hz,hsb,hb⟩;have HZ:=hide hz;have HSB:=hide hsb;have HB1:=hide hb;clear hz hsb hb)
 rw[eSO.out] at HZ
 clear d0 d1
 have CN:=hide (new_any (some ⟨sb,0,none⟩) Ls.length (ledS S (ordL Ls)) M w1 (by rw[SOL.out];omega) HZ.out.zbk.at)
 rw[SOL.out] at CN
 go_upto_region 5 with(go_at_call 21;refine CN.out.mono ?_;rintro en w2 ⟨hor,hb⟩;obtain⟨a,P,rfl,hca,hpa⟩:∃a P,en=.returned (.tuple #[.pointer (some ⟨a,0,none⟩),.int .i64 0])∧CA w2 a (ledS S (ordL Ls)) M [] 0 P∧∀k,P k→w1.heap.size≤k:=(by rcases hor with⟨_,_,_,a,P,h3,h4,h5⟩|⟨h3,_⟩;(exact⟨a,P,h3,h4,h5⟩);(exact absurd ⟨SOK.out,h0,h1⟩ h3));have HCA:=hide hca;have HPA:=hide hpa;have HB2:=hide hb;clear hor hca hpa hb)
 have Y2:=hide (bt HB1.out HB2.out (Nat.le_refl _))
 have Z2:=hide (HZ.out.below HB2.out)
 obtain⟨d0,d1⟩:=BXA.out w2 Y2.out
 have X3:Hid (Below w2.heap.size w2 (w2.alloc (.cells #[.pointer (some ⟨a,0,none⟩),.slice (some ⟨lb,0,none⟩) Ls.length lc,.slice (some ⟨sb,0,none⟩) Ls.length Ls.length,.slice none 0 0] 122))):=al (Below.refl _ _) _
 obtain⟨d2,d3⟩:=BXA.out _ (bt Y2.out X3.out (Nat.le_refl _))
 have ST:Hid (Bd1 w2 (w2.alloc (.cells #[.pointer (some ⟨a,0,none⟩),.slice (some ⟨lb,0,none⟩) Ls.length lc,.slice (some ⟨sb,0,none⟩) Ls.length Ls.length,.slice none 0 0] 122)) ⟨w2.heap.size,a,lb,lc,sb,Ls.length,0,0,fun _=>0,fun _=>0⟩ Ls 0 (.slice none 0 0) (fun _=>0)):=⟨heap_alloc_new w2 _,World.ownsRow_nil _ _ _ _,fun i hi=>by omega,fun i hi=>by omega,fun i j hi=>by omega,X3.out,Nat.le_refl _⟩
 go_upto_region 7 with fail
 have SBL:Hid (sb<w1.heap.size):=HZ.out.lt
 have SW1:Hid (wb.heap.size≤w1.heap.size):=HB1.out.size
 clear d0 d1 d2 d3 CN X3 HB1 HB2 HZ
 generalize w2.alloc (.cells #[.pointer (some ⟨a,0,none⟩),.slice (some ⟨lb,0,none⟩) Ls.length lc,.slice (some ⟨sb,0,none⟩) Ls.length Ls.length,.slice none 0 0] 122)=w3 at *
 go_loopw [35] (fun v wr=>∃k:Nat,k≤Ls.length∧v=.int .i64 (k:Int)∧∃ma mc mr,Hid (Bd1 w2 wr ⟨w2.heap.size,a,lb,lc,sb,Ls.length,0,0,fun _=>0,fun _=>0⟩ Ls k (.slice ma k mc) mr)) (fun v _=>Ls.length-(RowKit.intOf v).toNat)
 case atStart=>exact⟨0,Nat.zero_le _,rfl,none,0,_,ST⟩
 case round=>
  obtain⟨k,hk,rfl,ma,mc,mr,B1⟩:=hrel
  clear ST
  by_cases hlk:k<Ls.length
  ·have hlk':(k:Int)<(Ls.length:Int):=by omega
   obtain⟨y,hyk⟩:∃y,Ls[k]=y:=⟨_,rfl⟩
   have LR:=HD.out.lay.below (bt Y2.out B1.out.bel (Nat.le_refl _))
   have cc:=LR.cl k hlk
   rw[hyk,Nat.zero_add] at cc
   obtain⟨o1,o2⟩:=cc
   have hyl:y.Rs.length≤16777217:=HRL.out y (by rw[←hyk];exact List.getElem_mem _)
   have HYL:Hid ((lensL Ls).getD k 0=y.Rs.length):=by
    unfold Hid
    rw[←hyk]
    simp[lensL,List.getD_eq_getElem?_getD,List.getElem?_map,List.getElem?_eq_getElem hlk]
   clear LR hyk
   go_upto_region 9 with fail
   have X4:Hid (Below wr.heap.size wr (wr.alloc (.cells #[.int .i64 y.lv,.slice (some ⟨y.rb,0,none⟩) y.Rs.length y.rc] 105)).drew):=(al (Below.refl _ _) _).drew
   have bx:Hid ((wr.alloc (.cells #[.int .i64 y.lv,.slice (some ⟨y.rb,0,none⟩) y.Rs.length y.rc] 105)).drew.heap[wr.heap.size]? =some (.cells #[.int .i64 y.lv,.slice (some ⟨y.rb,0,none⟩) y.Rs.length y.rc] 105 (0,0))):=heap_alloc_new wr _
   have N1:=hide (B1.out.below X4.out)
   have HSB2:Hid (∀(V:World),Bd1 w2 V ⟨w2.heap.size,a,lb,lc,sb,Ls.length,0,0,fun _=>0,fun _=>0⟩ Ls k (.slice ma k mc) mr→V.heap[wr.heap.size]? =some (.cells #[.int .i64 y.lv,.slice (some ⟨y.rb,0,none⟩) y.Rs.length y.rc] 105 (0,0))→V.cell? ⟨w2.heap.size,3,none⟩=some (.slice ma k mc)∧V.cell? ⟨wr.heap.size,1,none⟩=some (.slice (some ⟨y.rb,0,none⟩) y.Rs.length y.rc)):=fun V hN hb=>⟨by rw[cell_of_row V _ _ _ _ _ hN.blk];rfl,by rw[cell_of_row V _ _ _ _ _ hb];rfl⟩
   refine wp_unt (S:=fun V=>V.cell? ⟨w2.heap.size,3,none⟩=some (.slice ma k mc)∧V.cell? ⟨wr.heap.size,1,none⟩=some (.slice (some ⟨y.rb,0,none⟩) y.Rs.length y.rc)) 9 (by kernel_rfl) ?_
   generalize (wr.alloc (.cells #[.int .i64 y.lv,.slice (some ⟨y.rb,0,none⟩) y.Rs.length y.rc] 105)).drew=wd at *
   generalize wr.heap.size=xb at *
   clear o1 o2 B1
   have HS0:=hide (HSB2.out _ N1.out bx.out)
   have hmk:=make_ints y.Rs.length (y.Rs.length:Int) rfl (by omega)
   refine UntH.tk 0 rfl 39 HS0.out (fun w' ⟨q0,q1⟩=>by go_simp;first|done|rfl) ?_
   refine UntH.tk 1 rfl 40 HS0.out (fun w' ⟨q0,q1⟩=>by go_simp;first|done|rfl) ?_
   refine UntH.tk 2 rfl 41 HS0.out (fun w' ⟨q0,q1⟩=>by go_simp;first|done|rfl) ?_
   refine UntH.tk 3 rfl 42 HS0.out (fun w' ⟨q0,q1⟩=>by go_simp;first|done|rfl) ?_
   refine UntH.tk 4 rfl 43 HS0.out (fun w' ⟨q0,q1⟩=>by go_simp;first|done|rfl) ?_
   try simp only[Act.put,List.setIfInBounds_toArray,List.set_cons_zero,List.set_cons_succ]
   have y2:Below wd.heap.size wd (wd.alloc (.cells (zC (List.replicate y.Rs.length 0)).toArray 3)):=al (Below.refl _ _) _
   have N2:=hide (N1.out.below y2)
   have Z3:Hid (RwZ (wd.alloc (.cells (zC (List.replicate y.Rs.length 0)).toArray 3)) wd.heap.size (List.replicate y.Rs.length 0)):=heap_alloc_new wd _
   have bx2:Hid ((wd.alloc (.cells (zC (List.replicate y.Rs.length 0)).toArray 3)).heap[xb]? =some (.cells #[.int .i64 y.lv,.slice (some ⟨y.rb,0,none⟩) y.Rs.length y.rc] 105 (0,0))):=(y2.block xb (lt_of_block bx.out)).trans bx.out
   have HS2:=hide (HSB2.out _ N2.out bx2.out)
   have XY2:=hide y2
   refine UntH.step (i:=5) (by kernel_rfl) rfl (fun K hK=>?_)
   go_simp
   refine hK _ _ HS2.out ?_
   clear hK K y2 hmk
   try simp only[Act.put,List.setIfInBounds_toArray,List.set_cons_zero,List.set_cons_succ]
   generalize wd.alloc (.cells (zC (List.replicate y.Rs.length 0)).toArray 3)=we at *
   have y3:Below we.heap.size we (we.alloc (.cells #[.slice (some ⟨wd.heap.size,0,none⟩) y.Rs.length y.Rs.length] 22)):=al (Below.refl _ _) _
   have N3:=hide (N2.out.below y3)
   have Z4:=hide (Z3.out.below y3)
   have XY3:=hide (bt XY2.out y3 (Nat.le_refl _))
   have bx3:Hid ((we.alloc (.cells #[.slice (some ⟨wd.heap.size,0,none⟩) y.Rs.length y.Rs.length] 22)).heap[xb]? =some (.cells #[.int .i64 y.lv,.slice (some ⟨y.rb,0,none⟩) y.Rs.length y.rc] 105 (0,0))):=(y3.block xb (lt_of_block bx2.out)).trans bx2.out
   have HS3:=hide (HSB2.out _ N3.out bx3.out)
   have HNW:=hide (one_new we (.slice (some ⟨wd.heap.size,0,none⟩) y.Rs.length y.Rs.length) 22)
   refine UntH.step (i:=6) (by kernel_rfl) rfl (fun K hK=>?_)
   go_simp
   refine hK _ _ HS3.out ?_
   clear hK K y3 N2 Z3 bx2 HS2 XY2
   generalize we.alloc (.cells #[.slice (some ⟨wd.heap.size,0,none⟩) y.Rs.length y.Rs.length] 22)=wf at *
   refine UntH.step (i:=7) (by kernel_rfl) rfl (fun K hK=>?_)
   refine step_append_lies _ (by rfl) (.tmp 40) (.tmp 45) 47 (by rfl) w2.heap.size 22 i22 (.slice none 0 0) 1 24 Try.underlying47 hi22 hz220 hz221 hz222 rfl (by decide) _ k _ (by rfl) N3.out.row ⟨we.heap.size,0,none⟩ 1 1 [.slice (some ⟨wd.heap.size,0,none⟩) y.Rs.length y.Rs.length] (by rfl) (by rfl) HNW.out (by simp[Value.oneCell']) (by decide) (by unfold maxLen;omega) (by omega) N3.out.bel.size _ rfl ?_
   intro g8 cap8 w8 h1 h2 h3 h4
   have O8:=hide h1
   have G8:=hide h2
   have kp8:Hid (∀ {c:Nat} {cs:Array Value} {tt:TypeId},wf.heap[c]? =some (.cells cs tt (0,0))→tt≠22→w8.heap[c]? =some (.cells cs tt (0,0))):=fun {c cs tt} hc htt=>((kept_of_grown h2).block c (lt_of_block hc) (fun hz=>by
    obtain⟨cs',h5⟩:=own_ty N3.out.row _ hz
    exact ty_ne hc h5 htt rfl)).trans hc
   have B8:=hide (kp8.out N3.out.blk (by decide))
   have bx8:=hide (kp8.out bx3.out (by decide))
   have HS8:Hid (w8.cell? ⟨w2.heap.size,3,none⟩=some (.slice ma k mc)∧w8.cell? ⟨xb,1,none⟩=some (.slice (some ⟨y.rb,0,none⟩) y.Rs.length y.rc)):=⟨by rw[cell_of_row _ _ _ _ _ _ B8.out];rfl,by rw[cell_of_row _ xb _ _ _ _ bx8.out];rfl⟩
   have f8:=frozen_of_row w8 w2.heap.size 3 _ _ B8.out
   refine hK _ _ HS8.out ?_
   clear hK K h1 h2 h3 h4 kp8
   refine UntH.tk 8 rfl 47 HS8.out (fun w' ⟨q0,q1⟩=>by go_simp;first|done|rfl) ?_
   have q8:=HS8.out.1
   refine UntH.last (by kernel_rfl) rfl (by kernel_rfl) (by kernel_rfl) (fun K hK=>?_)
   go_simp
   refine hK _ _ ?_
   clear hK K q8 f8 HS8 HS3 HS0
   have FIN:=hide (N1.out.step (nb:=wd.heap.size) (Nat.le_refl _) XY3.out (by rw[HYL.out];exact Z4.out) (by rw[HYL.out];exact O8.out) G8.out)
   clear O8 G8 B8 bx8 bx3 N3 Z4 XY3 HNW N1 HSB2 bx X4 HYL
   generalize w8.setCell ⟨w2.heap.size,3,none⟩ (.slice (some ⟨g8,0,none⟩) (k+1) cap8)=w9 at *
   go_wp2
   go_roundw
   case rel=>exact⟨k+1,by omega,by go_num,_,_,_,FIN⟩
   case measure=>simp[RowKit.intOf];omega
  ·have hlk':¬(k:Int)<(Ls.length:Int):=by omega
   obtain rfl:k=Ls.length:=by omega
   have hn0:0<Ls.length:=by have:=HSZ.out.ge;have:=HLN.out;omega
   obtain⟨mb,rfl,bdx⟩:=B1.out.bdx (B:=wb.heap.size) hn0 Y2.out.size (HD.out.lay.below Y2.out) Z2.out.zbk (fun hp=>by have:=HPA.out _ hp;have:=SBL.out;omega) HCA.out (fun k hp=>Nat.le_trans SW1.out (HPA.out k hp))
   have BDX:=hide bdx
   have YR:=hide (bt Y2.out B1.out.bel (Nat.le_refl _))
   obtain⟨d0,d1⟩:=BXA.out wr YR.out
   have hmk:=make_ints R.length (R.length:Int) rfl (by omega)
   have X5:Hid (Below wr.heap.size wr (wr.alloc (.cells (zC (List.replicate R.length 0)).toArray 3))):=al (Below.refl _ _) _
   obtain⟨d2,d3⟩:=BXA.out _ (bt YR.out X5.out (Nat.le_refl _))
   have Z5:Hid (RwZ (wr.alloc (.cells (zC (List.replicate R.length 0)).toArray 3)) wr.heap.size (List.replicate R.length 0)):=heap_alloc_new wr _
   have NPR:Hid (¬P wr.heap.size):=fun hp=>absurd (bdx.ar.plt hp) (Nat.lt_irrefl _)
   have LOW:Hid (BdLow _ Ls.length wr.heap.size):=bdx.lts
   have LOB:Hid (wb.heap.size≤wr.heap.size):=bdx.hB
   clear bdx B1
   go_upto_region 13 with fail
   clear d0 d1 d2 d3 hmk
   have ST2:=hide (Bd2.mk (wb:=wb) (R:=R) (k:=0) (ks:=[]) (BDX.out.below X5.out) Z5.out rfl rfl NPR.out (bt YR.out X5.out (Nat.le_refl _)))
   clear BDX YR X5 Z5 NPR
   generalize wr.alloc (.cells (zC (List.replicate R.length 0)).toArray 3)=w5 at *
   generalize wr.heap.size=rk at *
   obtain⟨x,hx⟩:∃x:BdA,x=⟨w2.heap.size,a,lb,lc,sb,Ls.length,mb,mc,mr,fun i=>(lensL Ls).getD i 0⟩:=⟨_,rfl⟩
   rw[←hx] at LOW ST2
   have HXB:Hid (x.b=w2.heap.size):=by unfold Hid;rw[hx]
   have HXA:Hid (x.a=a):=by unfold Hid;rw[hx]
   clear hx
   go_wp2
   go_loopw [56] (fun v wr=>∃k:Nat,k≤R.length∧v=.int .i64 (k:Int)∧∃ks N1 V1 P1,Hid (Bd2 wb wr x S M R Ls rk k ks N1 V1 P1)) (fun v _=>R.length-(RowKit.intOf v).toNat)
   case atStart=>exact⟨0,Nat.zero_le _,rfl,[],[],_,P,ST2⟩
   case round=>
    obtain⟨k,hk,rfl,ks,N1,V1,P1,B2⟩:=hrel
    clear ST2
    by_cases hlk:k<R.length
    ·have hlk':(k:Int)<(R.length:Int):=by omega
     obtain⟨b0,off,⟨hra,hoff⟩,hb0,hcl⟩:=HD.out.rts.resolve_left (fun e=>by rw[e] at hlk;cases hlk)
     clear hoff
     subst hra
     have q1:=(B2.out.bel.cell (p:=⟨b0,off+k,none⟩) hb0).trans (hcl k hlk)
     have HIN:Hid (inW (layL Ls) R[k]):=HRI.out _ (List.getElem_mem hlk)
     clear hcl
     go_upto_region 15 with fail
     clear q1
     obtain⟨t,ht⟩:∃t:Nat,R[k]=(t:Int):=⟨(R[k]).toNat,by have:=HIN.out.1;omega⟩
     have CS:=hide (put_any HSZ.out HW.out HLN.out Ls.length 0 (by omega) wr N1 V1 P1 t B2.out.bd (by rw[List.drop_zero,←ht];exact HIN.out))
     unfold PuL at CS
     rw[List.drop_zero,←ht,HXB.out] at CS
     clear ht
     have HOT:=ins_out (l:=0) B2.out.bd.ar.ok (Nat.zero_le _) (rowF_hang (A:=[]) (T:=layL Ls) HW.out rfl (x:=R[k]))
     obtain⟨f,er,N2,hz⟩:∃f er N2,ins (ledS S (ordL Ls)) M N1 (rowF (ordL Ls) (layL Ls) R[k])=(f,er,N2):=⟨_,_,_,rfl⟩
     have HSN:=hide (kids_snoc _ _ _ _ B2.out.kf (rowF (ordL Ls) (layL Ls) R[k]))
     have eT:(R.take (k+1)).map (rowF (ordL Ls) (layL Ls))=(R.take k).map (rowF (ordL Ls) (layL Ls))++[rowF (ordL Ls) (layL Ls) R[k]]:=by rw[List.take_succ_eq_append_getElem hlk,List.map_append];rfl
     rw[hz,←eT] at HSN
     rw[hz] at CS
     have NF:Hid (¬BdF x Ls.length P1 rk):=fun hF=>by
      rcases hF with hF|⟨q,hq,e⟩
      ·exact B2.out.np hF
      ·have:=LOW.out.2.2.2 q hq
       omega
     clear hz HOT eT
     have BEL6:Hid (∀w6,Kept (BdF x Ls.length P1) wr w6→Below wb.heap.size wb w6):=fun w6 hk6=>B2.out.bel.trans (hk6.below B2.out.bel.size (fun z hz=>by
      rcases hz with hz|⟨q,hq,rfl⟩
      ·exact B2.out.bd.hi z hz
      ·exact(B2.out.bd.mB q hq).1))
     by_cases her:er=0
     ·subst her
      have HSN2:Hid (kidsF (ins (ledS S (ordL Ls)) M) [] ((R.take (k+1)).map (rowF (ordL Ls) (layL Ls)))=(ks++[f],0,N2)):=by
       have:=HSN.out
       rw[if_pos rfl] at this
       exact this
      clear HSN
      go_wp2_with (go_at_call 63;refine CS.out.mono ?_;rintro en w6 ⟨rfl,V2,P2,hb,hk6,hn6⟩;have BD6:=hide hb;have KP6:=hide hk6;have PN6:=hide hn6;have RT6:=hide (B2.out.rt.kept hk6 NF.out);have rt6:=RT6.out.cell (k:=k) (by simp;have:=B2.out.len;omega);have rf6:=RT6.out.fro k;clear hb hk6 hn6)
      have hp6:¬P2 rk:=fun hp=>by
       rcases PN6.out rk hp with h3|h3
       ·exact B2.out.np h3
       ·have:=B2.out.rt.lt
        omega
      have k7:Kept (fun z=>z=rk) w6 (w6.setCell ⟨rk,k,none⟩ (.int .i64 f)):=Kept.setCell (F:=fun z=>z=rk) (p:=⟨rk,k,none⟩) (Kept.refl _ _) rfl _
      have b6:=BEL6.out w6 KP6.out
      have hsn:=HSN2.out
      have B3:=hide (Bd2.mk (BD6.out.out LOW.out LOB.out k7 (fun z hz=>by rw[hz];exact⟨Nat.le_refl _,hp6⟩)) (RT6.out.next B2.out.len hlk) (by rw[List.length_append,B2.out.len];rfl) hsn hp6 (b6.trans (k7.below b6.size (fun z hz=>by rw[hz];exact LOB.out))))
      clear k7 b6 hsn hp6
      go_roundw
      case rel=>exact⟨k+1,by omega,by go_num,_,_,_,_,B3⟩
      case measure=>simp[RowKit.intOf];omega
     ·have HST:Hid (kidsF (ins (ledS S (ordL Ls)) M) [] (R.map (rowF (ordL Ls) (layL Ls)))=([],er,N2)):=by
       have h3:=HSN.out
       rw[if_neg her] at h3
       have h4:=kids_stop _ _ _ _ her h3 ((R.drop (k+1)).map (rowF (ordL Ls) (layL Ls)))
       rw[←List.map_append,List.take_append_drop] at h4
       exact h4
      clear HSN
      go_wp2_with (go_at_call 63;refine CS.out.mono ?_;rintro en w6 ⟨rfl,V2,P2,hb,hk6,hn6⟩;have BD6:=hide hb;have KP6:=hide hk6;have PN6:=hide hn6;have RT6:=hide (B2.out.rt.kept hk6 NF.out);have rt6:=RT6.out.cell (k:=k) (by simp;have:=B2.out.len;omega);have rf6:=RT6.out.fro k;clear hb hk6 hn6)
      refine bodyPost_ret (v:=.tuple #[.pointer none,.slice none 0 0,.int .i64 er]) (by simp[results,Try.results34,go_sem];try rfl) rfl ?_
      have k7:Kept (fun z=>z=rk) w6 (w6.setCell ⟨rk,k,none⟩ (.int .i64 f)):=Kept.setCell (F:=fun z=>z=rk) (p:=⟨rk,k,none⟩) (Kept.refl _ _) rfl _
      have b6:=BEL6.out w6 KP6.out
      have b7:=b6.trans (k7.below b6.size (fun z hz=>by rw[hz];exact LOB.out))
      unfold BuL
      rw[HST.out]
      exact⟨.inr ⟨her,rfl⟩,bt X1.out b7 (Nat.le_refl _)⟩
    ·have hlk':¬(k:Int)<(R.length:Int):=by omega
     obtain rfl:k=R.length:=by omega
     go_wp2
     refine bodyPost_ret (v:=.tuple #[.pointer (some ⟨a,0,none⟩),.slice (some ⟨rk,0,none⟩) R.length R.length,.int .i64 0]) (by simp[results,Try.results34,go_sem];try rfl) rfl ?_
     have hk:=B2.out.kf
     rw[List.take_length] at hk
     have hr:=B2.out.rt
     rw[Nat.sub_self,List.replicate_zero,List.append_nil] at hr
     have har:=B2.out.bd.ar
     rw[HXA.out] at har
     unfold BuL
     rw[hk]
     exact⟨.inl ⟨rfl,a,rk,R.length,P1,rfl,hr,har,fun q hq=>Nat.le_trans X1.out.size (B2.out.bd.hi q hq),B2.out.np,Nat.le_trans X1.out.size LOB.out,rfl⟩,bt X1.out B2.out.bel (Nat.le_refl _)⟩
end
section
variable {w:World} {a:Nat} {S:List Int} {M:Int} {N:List Nd} {m:Nat} {P:Nat→Prop}
structure PtL (S:List Int) (A:List Int):Prop where
 len:A.length=S.length
 each:∀i,i<A.length→0≤A.getD i 0∧A.getD i 0<S.getD i 0
end
section
variable {w:World} {a:Nat} {S:List Int} {M:Int} {N:List Nd} {m:Nat} {P:Nat→Prop}
set_option maxRecDepth 100000 in
set_option maxHeartbeats 1000000 in
theorem mayBe_any (ao:Option Addr) (cap:Nat) (A:List Int) (M2:Int) (hl:A.length≤140737488351232) (hz:ZAt w ao A) (h:CA w a S M N m P):
 Calls Try.prog 29 #[.pointer (some ⟨a,0,none⟩),.slice ao A.length cap,.int .i64 M2] w fun e w'=>TellB (0≤M2∧M2≤8192∧∀f∈A,hasR N f) e∧Below w.heap.size w w':=by
 have HH:=hide h
 have HZ:=hide hz
 clear h hz
 generalize hqp:(0≤M2∧M2≤8192∧∀f∈A,hasR N f)=Qp
 have HQP:=hide hqp
 clear hqp
 by_cases h0:M2<0
 ·have HD:Hid (¬Qp):=fun h=>by rw[←HQP.out] at h;omega
  go_enter Try.func29,Try.ntmps29
  go_wp2
  go_ret
  exact⟨TellB.no HD.out,Below.refl _ _⟩
 ·by_cases h1:8192<M2
  ·have HD:Hid (¬Qp):=fun h=>by rw[←HQP.out] at h;omega
   go_enter Try.func29,Try.ntmps29
   go_wp2
   go_ret
   exact⟨TellB.no HD.out,Below.refl _ _⟩
  ·have HM2:Hid (0≤M2∧M2≤8192):=⟨by omega,by omega⟩
   go_enter Try.func29,Try.ntmps29
   go_wp2
   go_loopw [21] (fun x wr=>∃k:Nat,k≤A.length∧x=.int .i64 k∧Hid (∀i,i<k→hasR N (A.getD i 0))∧Hid (Below w.heap.size w wr)) (fun x _=>A.length-(RowKit.intOf x).toNat)
   case atStart=>exact⟨0,Nat.zero_le _,rfl,fun i h=>by omega,Below.refl _ _⟩
   case round=>
    obtain⟨k,hk,rfl,HE,HQ⟩:=hrel
    by_cases hlt:k<A.length
    ·have hlt':(k:Int)<A.length:=by omega
     obtain⟨b1,o1,rfl,hb1,g1⟩:=HZ.out.get hlt
     have q1:=(HQ.out.cell (p:=⟨b1,o1+k,none⟩) hb1).trans g1
     clear g1
     have HM:Hid (A.getD k 0∈A):=getD_mem hlt
     have HE2:Hid (hasR N (A.getD k 0)→∀i,i<k+1→hasR N (A.getD i 0)):=fun p i hi=>by
      rcases Nat.lt_or_ge i k with h|h
      ·exact HE.out i h
      ·obtain rfl:i=k:=by omega
       exact p
     clear HE
     generalize A.getD k 0=x at *
     have HA:=hide ((HH.out.below HQ.out).has x)
     have HI:=hide (hasN_iff (f:=x) N (n:=N.length) rfl)
     cases hb:hasN N.length x
     ·rw[hb] at HA
      have HD:Hid (¬Qp):=fun h=>by
       rw[←HQP.out] at h
       have:=h.2.2 x HM.out
       rw[←HI.out,hb] at this
       cases this
      clear hb
      go_wp2_with (go_at_call 53;refine HA.out.mono ?_;rintro e w1 ⟨rfl,hw1⟩;have hw2:=hw1.symm;clear hw1;subst hw2)
      go_ret
      exact⟨TellB.no HD.out,HQ.out⟩
     ·rw[hb] at HA
      have HE3:=hide (HE2.out (HI.out.1 hb))
      clear hb HE2
      go_wp2_with (go_at_call 53;refine HA.out.mono ?_;rintro e w1 ⟨rfl,hw1⟩;have hw2:=hw1.symm;clear hw1;subst hw2)
      go_roundw
      case rel=>exact⟨k+1,by omega,by go_num,HE3,HQ⟩
      case measure=>simp[RowKit.intOf];omega
    ·have hlt':¬(k:Int)<A.length:=by omega
     have HD:Hid Qp:=HQP.out▸⟨HM2.out.1,HM2.out.2,all_of_getD (fun i hi=>HE.out i (by omega))⟩
     go_wp2
     go_ret
     exact⟨TellB.yes HD.out,HQ.out⟩
end
end Go.Proofs.Ytnddhkhmbjeefaa

