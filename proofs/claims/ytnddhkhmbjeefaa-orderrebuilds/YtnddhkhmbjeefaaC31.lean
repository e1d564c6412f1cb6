/-
  The orders that Best goes through; what its loop keeps. No condition.
-/
import Derived.Test.YtnddhkhmbjeefaaC29
import Derived.Test.YtnddhkhmbjeefaaC30
import Derived.Test.YtnddhkhmbjeefaaC25
namespace Go.Proofs.Ytnddhkhmbjeefaa
open Go.RowKit Go.Lib Go.Maps
def nxtO (c:List Int→Int) (o:List Int) (v:Int):List Int:=mv (o.erase v) v (bsq c (o.erase v) v (o.idxOf v,c o) (List.range o.length)).1
def bsO (c:List Int→Int) (o:List Int):Nat→List Int
 |0=>o
 |k+1=>nxtO c (bsO c o k) (k:Int)
section
variable {c:List Int→Int} {o:List Int} {v:Int} {S:List Int} {F:List Phi} {R:List Int} {most:Int}
theorem mv_perm (E:List Int) (v:Int) (q:Nat):(mv E v q).Perm (v::E):=by
 have:=(List.perm_middle (a:=v) (l₁:=E.take q) (l₂:=E.drop q))
 rwa [List.take_append_drop] at this
theorem mv_back:∀ {o:List Int},v∈o→mv (o.erase v) v (o.idxOf v)=o
 |[],h=>by simp at h
 |a::o,h=>by
  by_cases e:a=v
  ·subst e
   simp[mv]
  ·have hm:v∈o:=by simpa [Ne.symm e] using h
   have ih:=mv_back hm
   have e1:(a::o).erase v=a::o.erase v:=by rw[List.erase_cons_tail (by simpa using e)]
   have e2:(a::o).idxOf v=o.idxOf v+1:=by rw[List.idxOf_cons,show(a==v)=false by simpa using e];rfl
   rw[e1,e2]
   simp only[mv,List.take_succ_cons,List.drop_succ_cons,List.cons_append] at ih ⊢
   rw[ih]
theorem erase_len (h:v∈o):(o.erase v).length+1=o.length:=by
 have h1:=List.length_erase_of_mem h
 have h2:=List.length_pos_of_mem h
 omega
theorem idx_le (h:v∈o):o.idxOf v≤(o.erase v).length:=by
 have h1:=List.idxOf_lt_length_of_mem h
 have h2:=erase_len h
 omega
theorem nxtO_perm (h:v∈o):(nxtO c o v).Perm o:=by
 have h1:=mv_perm (o.erase v) v (bsq c (o.erase v) v (o.idxOf v,c o) (List.range o.length)).1
 have h2:=mv_perm (o.erase v) v (o.idxOf v)
 rw[mv_back h] at h2
 exact h1.trans h2.symm
theorem bsO_perm {n:Nat} (ho:∀k:Nat,k<n→(k:Int)∈o):∀k,k≤n→(bsO c o k).Perm o
 |0,_=>List.Perm.refl _
 |k+1,hk=>by
  have ih:=bsO_perm ho k (by omega)
  exact(nxtO_perm (ih.mem_iff.2 (ho k (by omega)))).trans ih
theorem best_next (hS:SzOk S) (h0:0≤most) (h8:most≤8192) {d:DX} (G:GD S F R (layL d.Ls)) (e:ordL d.Ls=o) (hv:v∈o) {ls:Int} (hls:(if most+1<(nodesL (layL d.Ls):Int) then most+1 else(nodesL (layL d.Ls):Int))=ls) {xs:List DX} (h:SOt S F R (ls-1) (o.erase v) v (o.idxOf v) xs):
 ordL (bstF (d,ls) xs).1.Ls=nxtO (cN S F most) o v:=by
 have hd:AtQ S F R (o.erase v) v d (o.idxOf v):=⟨G,by rw[e,mv_back hv]⟩
 have:=(best_spec hS h0 h8 hd (idx_le hv) hls h).2
 rw[this,mv_back hv,erase_len hv]
 rfl
theorem chp_lv {N:List Nd}:∀ {L:List Lay} {l:Nat} {Q Q':List Int},ChP S N l Q L Q'→L.map (·.1)=(List.range' l L.length).map fun(i:Nat)=>(i:Int)
 |[],_,_,_,_=>rfl
 |y::T,l,Q,Q',h=>by
  obtain⟨Q1,s,hT⟩:=h
  rw[List.map_cons,chp_lv hT,List.length_cons,List.range'_succ,List.map_cons,s.lv]
end
structure BeI (w wr:World) (dc:Nat) (S:List Int) (F:List Phi) (ra:Option Addr) (rc:Nat) (R:List Int) (o:List Int) (x:DX):Prop where
 blk:wr.heap[dc]? =some (.cells #[.slice ra R.length rc,.slice (some ⟨x.lb,0,none⟩) x.Ls.length x.lc] 70 (0,0))
 px:PxO S F ra R 0 x wr
 od:ordL x.Ls=o
 bel:Below w.heap.size w wr
section
variable {w wr:World} {dc:Nat} {S:List Int} {F:List Phi} {ra:Option Addr} {rc:Nat} {R:List Int} {o o':List Int} {x x':DX}
theorem BeI.put {w2 w3:World} (h:BeI w wr dc S F ra rc R o x) (y:Below wr.heap.size wr w2) (hx:PxO S F ra R 0 x' w2) (ho:ordL x'.Ls=o') (hdc:w.heap.size≤dc)
 (e:w3=(w2.setCell ⟨dc,0,none⟩ (.slice ra R.length rc)).setCell ⟨dc,1,none⟩ (.slice (some ⟨x'.lb,0,none⟩) x'.Ls.length x'.lc)):BeI w w3 dc S F ra rc R o' x':=by
 have b2:=(y.block _ (lt_of_obj h.blk)).trans h.blk
 have a2:=block_setCell b2 0 (.slice ra R.length rc)
 have r:Rnd (fun z=>z=dc) w2 w3:=by
  rw[e]
  exact(Rnd.setCell (Q:=fun z=>z=dc) (p:=⟨dc,0,none⟩) rfl (soft70 b2) _).trans (Rnd.setCell (Q:=fun z=>z=dc) (p:=⟨dc,1,none⟩) rfl (soft70 (by simpa using a2)) _)
 refine⟨?_,hx.soft r.any,ho,?_⟩
 ·rw[e]
  have:=block_setCell a2 1 (.slice (some ⟨x'.lb,0,none⟩) x'.Ls.length x'.lc)
  simpa using this
 ·have x1:=bt h.bel y (Nat.le_refl _)
  exact x1.trans (r.belowN x1.size (fun b hb=>by rw[hb];exact hdc))
end
section
variable {w:World} {a:Nat} {S:List Int} {M:Int} {N:List Nd} {m:Nat} {PA:Nat→Prop} {rs:List Int} {most:Int}
set_option maxRecDepth 100000 in
set_option maxHeartbeats 4000000 in
theorem bestAll_any (ao:Option Addr) (cap:Nat) (hA:CA w a S M N m PA) (hz:ZAt w ao rs) (hrs:∀f∈rs,hasR N f) (hl:rs.length≤268435456) (h0:0≤most) (h8:most≤8192) (hm:Sml S (rs.map fun f p=>sayR N p f)):
 Calls Try.prog 15 #[.pointer (some ⟨a,0,none⟩),.slice ao rs.length cap,.int .i64 most] w fun e w'=>∃g,e=.returned (.tuple #[.slice (some ⟨g,0,none⟩) S.length S.length,.int .i64 0])∧RwZ w' g (bsO (cN S (rs.map fun f p=>sayR N p f) most) (lows S.length) S.length)∧w.heap.size≤g∧Below w.heap.size w w':=by
 have hS:=hA.ok.sz
 have hS12:S.length≤12:=hS.le
 have HMB:Hid (Calls Try.prog 29 #[.pointer (some ⟨a,0,none⟩),.slice ao rs.length cap,.int .i64 most] w fun e w'=>e=.returned (.bool true)∧Below w.heap.size w w'):=(mayBe_any ao cap rs most (by omega) hz hA).mono (fun e w' ⟨⟨b,e1,hb⟩,hx⟩=>⟨by rw[e1,hb.2 ⟨by omega,by omega,hrs⟩],hx⟩)
 have HRD:Hid (∀V,Below w.heap.size w V→Calls Try.prog 31 #[.pointer (some ⟨a,0,none⟩),.slice ao rs.length cap] V fun e w'=>∃ra rc lb lc R Ls,e=.returned (dgV ra R.length rc lb Ls.length lc)∧DgX w' w'.heap.size ra lb lc R Ls∧Ls.length=S.length∧GD S (rs.map fun f p=>sayR N p f) R (layL Ls)∧ordL Ls=lows S.length∧Below V.heap.size V w'):=fun V hV=>(read_any ao cap (hA.below hV) (hz.below hV) hrs hl).mono (fun e w' ⟨ra,rc,lb,lc,R,Ls,e1,D,hR,hL,G,⟨Q',hC⟩,hx⟩=>⟨ra,rc,lb,lc,R,Ls,by rw[hR,hL];exact e1,D,hL,G,by
  have:=chp_lv hC
  rw[List.length_map,hL] at this
  rw[show ordL Ls=(layL Ls).map (·.1) from rfl,this,lows,List.range_eq_range'],hx⟩)
 have HSM:=hide hm
 have HSZ:=hide hS
 clear hA hz hrs hm hS
 generalize (rs.map fun f p=>sayR N p f)=F at *
 go_enter Try.func15,Try.ntmps15
 go_upto_region 4 with(first
  |(go_at_call 29;refine HMB.out.mono ?_;rintro e w1 ⟨rfl,x1⟩;have X1:=hide x1;clear x1)
  |(go_at_call 31;refine(HRD.out _ X1.out).mono ?_;rintro e w4 ⟨ra,rc,lb,lc,R,Ls,rfl,hD,hLl,hG,hO,x4⟩;have D4:=hide hD;have HLL:=hide hLl;have G4:=hide hG;have O4:=hide hO;have X4:=hide (bt X1.out x4 (Nat.le_refl _));clear hD hLl hG hO x4))
 clear HMB HRD X1
 have y5:Below w4.heap.size w4 (w4.alloc (.cells #[.slice ra R.length rc,.slice (some ⟨lb,0,none⟩) Ls.length lc] 70)):=al (Below.refl _ _) _
 have ST:Hid (BeI w (w4.alloc (.cells #[.slice ra R.length rc,.slice (some ⟨lb,0,none⟩) Ls.length lc] 70)) w4.heap.size S F ra rc R (bsO (cN S F most) (lows S.length) 0) ⟨lb,lc,Ls⟩):=⟨heap_alloc_new w4 _,⟨(D4.out.below y5).mono y5.size (Nat.le_refl _),G4.out⟩,O4.out,bt X4.out y5 (Nat.le_refl _)⟩
 have LDC:Hid (w.heap.size≤w4.heap.size):=X4.out.size
 clear y5 D4 G4 X4 O4
 generalize w4.alloc (.cells #[.slice ra R.length rc,.slice (some ⟨lb,0,none⟩) Ls.length lc] 70)=w5 at *
 generalize w4.heap.size=dc at *
 have d1:w5.cell? ⟨dc,1,none⟩=some (.slice (some ⟨lb,0,none⟩) Ls.length lc):=by rw[cell_of_row w5 _ _ _ _ _ ST.out.blk];rfl
 go_wp2
 clear d1
 have hLn:=HLL.out
 have hL12:Ls.length≤12:=by omega
 clear hLn
 go_loopw [21] (fun v21 wr=>∃k:Nat,k≤Ls.length∧v21=.int .i64 (k:Int)∧∃x,Hid (BeI w wr dc S F ra rc R (bsO (cN S F most) (lows S.length) k) x)) (fun v _=>Ls.length-(RowKit.intOf v).toNat)
 case atStart=>exact⟨0,Nat.zero_le _,rfl,_,ST⟩
 case round=>
  obtain⟨k,hk,rfl,x,BI⟩:=hrel
  clear ST
  have d0:wr.cell? ⟨dc,0,none⟩=some (.slice ra R.length rc):=by rw[cell_of_row wr _ _ _ _ _ BI.out.blk];rfl
  have d1:wr.cell? ⟨dc,1,none⟩=some (.slice (some ⟨x.lb,0,none⟩) x.Ls.length x.lc):=by rw[cell_of_row wr _ _ _ _ _ BI.out.blk];rfl
  by_cases hlk:k<Ls.length
  ·have hlk':(k:Int)<(Ls.length:Int):=by omega
   obtain⟨o,ho⟩:∃o,bsO (cN S F most) (lows S.length) k=o:=⟨_,rfl⟩
   have HO:=hide ho
   have hod:ordL x.Ls=o:=by rw[BI.out.od,ho]
   have hmem:(k:Int)∈o:=by
    have h1:=HLL.out
    have hO:IsOrd S o:=by rw[←hod];exact BI.out.px.2.ord
    exact hO.mem (by omega)
   obtain⟨ls,hls⟩:∃ls:Int,(if most+1<(nodesL (layL x.Ls):Int) then most+1 else(nodesL (layL x.Ls):Int))=ls:=⟨_,rfl⟩
   have BA:=hide (best_any (rc:=rc) HSZ.out HSM.out BI.out.px.2 (hod.trans (mv_back hmem).symm) (idx_le hmem) h0 h8 BI.out.px.1 hls)
   have NX:Hid (∀xs,SOt S F R (ls-1) (o.erase (k:Int)) (k:Int) (o.idxOf (k:Int)) xs→ordL (bstF (⟨x.lb,x.lc,x.Ls⟩,ls) xs).1.Ls=bsO (cN S F most) (lows S.length) (k+1)):=fun xs h=>by
    have:=best_next HSZ.out h0 h8 (d:=⟨x.lb,x.lc,x.Ls⟩) BI.out.px.2 hod hmem hls h
    rw[this,←ho]
    rfl
   clear hls ho hod hmem
   go_upto_region 8 with(go_at_call 39;refine BA.out.mono ?_;rintro e w6 ⟨xs,hS6,rfl,px6,x6⟩;obtain⟨x',hx'⟩:∃x',(bstF (⟨x.lb,x.lc,x.Ls⟩,ls) xs).1=x':=⟨_,rfl⟩;have n6:=NX.out xs hS6;rw[hx'] at px6 n6;rw[hx'];have PX6:=hide px6;have N6:=hide n6;have X6:=hide x6;have b6:=(x6.block _ (lt_of_obj BI.out.blk)).trans BI.out.blk;have s0:w6.cell? ⟨dc,0,none⟩=some (.slice ra R.length rc):=(by rw[cell_of_row w6 _ _ _ _ _ b6];rfl);have s1:w6.cell? ⟨dc,1,none⟩=some (.slice (some ⟨x.lb,0,none⟩) x.Ls.length x.lc):=(by rw[cell_of_row w6 _ _ _ _ _ b6];rfl);have g0:=frozen_of_row w6 dc 0 _ _ b6;have g1:=frozen_of_row w6 dc 1 _ _ b6;clear px6 n6 x6 b6 hx' hS6)
   have FIN:=hide (BI.out.put (w3:=(w6.setCell ⟨dc,0,none⟩ (.slice ra R.length rc)).setCell ⟨dc,1,none⟩ (.slice (some ⟨x'.lb,0,none⟩) x'.Ls.length x'.lc)) X6.out PX6.out N6.out LDC.out rfl)
   clear s0 s1 g0 g1 d0 d1
   generalize (w6.setCell ⟨dc,0,none⟩ (.slice ra R.length rc)).setCell ⟨dc,1,none⟩ (.slice (some ⟨x'.lb,0,none⟩) x'.Ls.length x'.lc)=w7 at *
   go_wp2
   go_roundw
   case rel=>exact⟨k+1,by omega,by go_num,x',FIN⟩
   case measure=>simp[RowKit.intOf];omega
  ·have hlk':¬(k:Int)<(Ls.length:Int):=by omega
   obtain rfl:k=Ls.length:=by omega
   have hx12:x.Ls.length≤12:=by have h1:=BI.out.px.2.len;rw[List.length_map] at h1;omega
   have OA:=hide (order_any (rc:=rc) hx12 BI.out.px.1)
   go_wp2_with (go_at_call 40;refine OA.out.mono ?_;rintro e w6 ⟨g,rfl,hz,hg,x6⟩;have Z6:=hide hz;have G6:=hide hg;have X6:=hide x6;clear hz hg x6)
   go_ret2
   have h1:=BI.out.px.2.len
   rw[List.length_map] at h1
   refine⟨g,by rw[h1];rfl,?_,Nat.le_trans BI.out.bel.size G6.out,bt BI.out.bel X6.out (Nat.le_refl _)⟩
   have h2:=Z6.out
   have h3:=BI.out.od
   rw[HLL.out] at h3
   rw[show x.Ls.map LA.lv=ordL x.Ls by simp[LA.lay],h3] at h2
   exact h2
end
section
variable {w:World} {a:Nat} {S:List Int} {M:Int} {N:List Nd} {m:Nat} {PA:Nat→Prop} {rs o:List Int} {most:Int}
set_option maxRecDepth 100000 in
set_option maxHeartbeats 4000000 in
theorem rebuild_any (ao oo:Option Addr) (cap oc:Nat) (hA:CA w a S M N m PA) (hz:ZAt w ao rs) (hzo:ZAt w oo o) (hrs:∀f∈rs,hasR N f) (hl:rs.length≤268435456) (ho:IsOrd S o) (h0:0≤most) (h8:most≤8192) (hm:Sml S (rs.map fun f p=>sayR N p f)):
 Calls Try.prog 12 #[.pointer (some ⟨a,0,none⟩),.slice ao rs.length cap,.slice oo o.length oc,.int .i64 most] w fun e w'=>RbL S most (rs.map fun f p=>sayR N p f) o rs.length w e w':=by
 have hS:=hA.ok.sz
 have hol:=ho.len
 have hS12:S.length≤12:=hS.le
 have HMB:Hid (Calls Try.prog 29 #[.pointer (some ⟨a,0,none⟩),.slice ao rs.length cap,.int .i64 most] w fun e w'=>e=.returned (.bool true)∧Below w.heap.size w w'):=(mayBe_any ao cap rs most (by omega) hz hA).mono (fun e w' ⟨⟨b,e1,hb⟩,hx⟩=>⟨by rw[e1,hb.2 ⟨by omega,by omega,hrs⟩],hx⟩)
 have HSS:Hid (∀V,Below w.heap.size w V→Calls Try.prog 17 #[.pointer (some ⟨a,0,none⟩)] V fun e w'=>(∃g c,e=.returned (.slice (some ⟨g,0,none⟩) S.length c))∧Below V.heap.size V w'):=fun V hV=>((hA.below hV).sizes).mono (fun e w' ⟨⟨g,c,e1,_⟩,hx⟩=>⟨⟨g,c,e1⟩,hx⟩)
 have HIO:Hid (∀V,Below w.heap.size w V→Calls Try.prog 30 #[.slice oo o.length oc,.int .i64 (S.length:Int)] V fun e w'=>e=.returned (.bool true)∧Below V.heap.size V w'):=fun V hV=>(isOrder_any oo oc o S.length hS12 (by omega) (hzo.below hV)).mono (fun e w' ⟨⟨b,e1,hb⟩,hx⟩=>⟨by rw[e1,hb.2 ⟨hol,ho.nod,ho.rng⟩],hx⟩)
 have HRD:Hid (∀V,Below w.heap.size w V→Calls Try.prog 31 #[.pointer (some ⟨a,0,none⟩),.slice ao rs.length cap] V fun e w'=>∃ra rc lb lc R Ls,e=.returned (dgV ra R.length rc lb Ls.length lc)∧DgX w' w'.heap.size ra lb lc R Ls∧R.length=rs.length∧GD S (rs.map fun f p=>sayR N p f) R (layL Ls)∧Below V.heap.size V w'):=fun V hV=>(read_any ao cap (hA.below hV) (hz.below hV) hrs hl).mono (fun e w' ⟨ra,rc,lb,lc,R,Ls,e1,D,hR,hL,G,_,hx⟩=>⟨ra,rc,lb,lc,R,Ls,by rw[hR,hL];exact e1,D,hR,G,hx⟩)
 have HZO:=hide hzo
 have HOR:=hide ho
 have HSM:=hide hm
 have HSZ:=hide hS
 have ho12:o.length≤12:=by omega
 clear hA hz hzo hrs ho hm hS hol hS12
 generalize (rs.map fun f p=>sayR N p f)=F at *
 go_enter Try.func12,Try.ntmps12
 go_upto_region 4 with(first
  |(go_at_call 29;refine HMB.out.mono ?_;rintro e w1 ⟨rfl,x1⟩;have X1:=hide x1;clear x1)
  |(go_at_call 17;refine(HSS.out _ X1.out).mono ?_;rintro e w2 ⟨⟨sg,sc,rfl⟩,x2⟩;have X2:=hide (bt X1.out x2 (Nat.le_refl _));clear x2)
  |(go_at_call 30;refine(HIO.out _ X2.out).mono ?_;rintro e w3 ⟨rfl,x3⟩;have X3:=hide (bt X2.out x3 (Nat.le_refl _));clear x3)
  |(go_at_call 31;refine(HRD.out _ X3.out).mono ?_;rintro e w4 ⟨ra,rc,lb,lc,R,Ls,rfl,hD,hRl,hG,x4⟩;have D4:=hide hD;have HRL:=hide hRl;have G4:=hide hG;have X4:=hide (bt X3.out x4 (Nat.le_refl _));clear hD hRl hG x4))
 clear HMB HSS HIO HRD X1 X2 X3
 have y5:Below w4.heap.size w4 (w4.alloc (.cells #[.slice ra R.length rc,.slice (some ⟨lb,0,none⟩) Ls.length lc] 70)):=al (Below.refl _ _) _
 have ST:Hid (RbI w (w4.alloc (.cells #[.slice ra R.length rc,.slice (some ⟨lb,0,none⟩) Ls.length lc] 70)) w4.heap.size S F o ra rc R 0 lb lc Ls):=⟨heap_alloc_new w4 _,(D4.out.below y5).mono y5.size (Nat.le_refl _),G4.out,by simp,bt X4.out y5 (Nat.le_refl _)⟩
 have LDC:Hid (w.heap.size≤w4.heap.size):=X4.out.size
 clear y5 D4 G4 X4
 generalize w4.alloc (.cells #[.slice ra R.length rc,.slice (some ⟨lb,0,none⟩) Ls.length lc] 70)=w5 at *
 generalize w4.heap.size=dc at *
 go_wp2
 go_loopw [34] (fun v34 wr=>∃k:Nat,k≤o.length∧v34=.int .i64 (k:Int)∧∃lb lc Ls,Hid (RbI w wr dc S F o ra rc R k lb lc Ls)) (fun v _=>o.length-(RowKit.intOf v).toNat)
 case atStart=>exact⟨0,Nat.zero_le _,rfl,lb,lc,Ls,ST⟩
 case round=>
  obtain⟨k,hk,rfl,lb1,lc1,Ls1,RI⟩:=hrel
  clear ST
  by_cases hlk:k<o.length
  ·have hlk':(k:Int)<(o.length:Int):=by omega
   obtain⟨zb,zo,hao,_,q1⟩:=(HZO.out.below RI.out.bel).get hlk
   subst hao
   rw[show o.getD k 0=o[k] by rw[List.getD_eq_getElem?_getD,List.getElem?_eq_getElem hlk];rfl] at q1
   obtain⟨Aa,Xx,bl,Tt,eL,hAk,hbl,hne⟩:=RI.out.split HOR.out hlk
   have hn7:Ls1.length≤12:=by have h1:=RI.out.gd.len;have h2:=HSM.out.len;rw[List.length_map] at h1;omega
   have hk0:k+Xx.length<Ls1.length:=by rw[eL];simp;omega
   have PLC:Hid (∀V,Below wr.heap.size wr V→Calls Try.prog 33 #[dgV ra R.length rc lb1 Ls1.length lc1,.int .i64 o[k]] V fun e w'=>e=.returned (.int .i64 ((k+Xx.length:Nat):Int))∧Below V.heap.size V w'):=fun V hV=>placeOf_any hn7 (RI.out.dg.below hV) hk0 (by
    have e1:Ls1[k+Xx.length]? =some bl:=by rw[eL,←hAk,List.getElem?_append_right (by omega),Nat.add_sub_cancel_left,List.getElem?_append_right (Nat.le_refl _),Nat.sub_self];rfl
    rw[List.getElem?_eq_getElem hk0] at e1
    rw[Option.some.inj e1]
    exact hbl) (fun i hi=>hne i (by omega) hi)
   have LFT:Hid (∀V,Below wr.heap.size wr V→Calls Try.prog 32 #[dgV ra R.length rc lb1 Ls1.length lc1,.int .i64 ((k+Xx.length:Nat):Int),.int .i64 (k:Int),.int .i64 most] V fun e w'=>∃r1 n1 c1 l1 n2 c2 bb,e=.returned (.tuple #[.agg #[.slice r1 n1 c1,.slice l1 n2 c2],.bool bb])∧LuX S F ra rc R Aa Xx bl Tt most r1 n1 c1 l1 n2 c2 bb w'∧Below V.heap.size V w'):=fun V hV=>by
    have G:=RI.out.gd
    have D:=RI.out.dg.below hV
    rw[eL] at G D
    have:=(lift_u (rc:=rc) HSZ.out HSM.out G D (by omega) h8).mono (fun e w' h=>LuL.x h)
    rw[hAk,←eL] at this
    exact this
   have DW:Hid (∀V,Below wr.heap.size wr V→V.cell? ⟨dc,0,none⟩=some (.slice ra R.length rc)∧V.cell? ⟨dc,1,none⟩=some (.slice (some ⟨lb1,0,none⟩) Ls1.length lc1)):=fun V y=>by
    have b:=(y.block _ (lt_of_block RI.out.blk)).trans RI.out.blk
    exact⟨by rw[cell_of_row V _ _ _ _ _ b];rfl,by rw[cell_of_row V _ _ _ _ _ b];rfl⟩
   have EL:=hide eL
   have HAK:=hide hAk
   have HBL:=hide hbl
   clear eL hAk hbl hne hk0 hn7
   generalize hov:o[k]=ov at *
   have HOV:=hide hov
   clear hov
   go_upto_region 7 with fail
   clear q1
   go_cut [14,15] (fun v14 v15 wx=>∃ob r1 n1 c1 l1 n2 c2 bb,v14=.pointer (some ⟨ob,0,none⟩)∧v15=.bool bb∧Hid (wx.heap[ob]? =some (.cells #[.slice r1 n1 c1,.slice l1 n2 c2] 70 (0,0)))∧Hid (wr.heap.size≤ob)∧Hid (LuX S F ra rc R Aa Xx bl Tt most r1 n1 c1 l1 n2 c2 bb wx)∧Hid (Below wr.heap.size wr wx))
   case first=>
    have X0:Hid (Below wr.heap.size wr wr.drew):=(Below.refl _ wr).drew
    refine wp_unt (S:=fun V=>V.cell? ⟨dc,0,none⟩=some (.slice ra R.length rc)∧V.cell? ⟨dc,1,none⟩=some (.slice (some ⟨lb1,0,none⟩) Ls1.length lc1)) 12 (by kernel_rfl) ?_
    generalize wr.drew=w0 at *
    have HS0:=hide (DW.out w0 X0.out)
    refine UntH.tk 0 rfl 40 HS0.out (fun w' ⟨q0,q1⟩=>by go_simp;first|done|rfl) ?_
    refine UntH.tk 1 rfl 41 HS0.out (fun w' ⟨q0,q1⟩=>by go_simp;first|done|rfl) ?_
    refine UntH.tk 2 rfl 42 HS0.out (fun w' ⟨q0,q1⟩=>by go_simp;first|done|rfl) ?_
    refine UntH.tk 4 rfl 44 HS0.out (fun w' ⟨q0,q1⟩=>by go_simp;first|done|rfl) ?_
    refine UntH.tk 5 rfl 45 HS0.out (fun w' ⟨q0,q1⟩=>by go_simp;first|done|rfl) ?_
    try simp only[Act.put,List.setIfInBounds_toArray,List.set_cons_zero,List.set_cons_succ]
    refine UntH.two (i:=3) (j:=10) (by kernel_rfl) rfl rfl (fun K hK=>?_) (fun K hK=>?_)
    ·go_simp
     refine(PLC.out w0 X0.out).mono ?_
     rintro en w1 ⟨rfl,x1⟩
     have X1:=hide (bt X0.out x1 (Nat.le_refl _))
     have HS1:=hide (DW.out _ X1.out)
     refine hK _ _ HS1.out ?_
     clear hK K x1
     try simp only[Act.put,List.setIfInBounds_toArray,List.set_cons_zero,List.set_cons_succ]
     refine UntH.two (i:=6) (j:=10) (by kernel_rfl) rfl rfl (fun K hK=>?_) (fun K hK=>?_)
     ·go_simp
      refine(LFT.out w1 X1.out).mono ?_
      rintro en w2 ⟨r1,n1,c1,l1,n2,c2,bb,rfl,lx,x2⟩
      have X2:=hide (bt X1.out x2 (Nat.le_refl _))
      have HS2:=hide (DW.out _ X2.out)
      have LX2:=hide lx
      refine hK _ _ HS2.out ?_
      clear hK K x2 lx
      try simp only[Act.put,List.setIfInBounds_toArray,List.set_cons_zero,List.set_cons_succ]
      refine UntH.tk 7 rfl 39 HS2.out (fun w' ⟨q0,q1⟩=>by go_simp;first|done|rfl) ?_
      refine UntH.tk 8 rfl 47 HS2.out (fun w' ⟨q0,q1⟩=>by go_simp;first|done|rfl) ?_
      refine UntH.tk 9 rfl 48 HS2.out (fun w' ⟨q0,q1⟩=>by go_simp;first|done|rfl) ?_
      try simp only[Act.put,List.setIfInBounds_toArray,List.set_cons_zero,List.set_cons_succ]
      have y3:Below w2.heap.size w2 (w2.alloc (.cells #[.slice none 0 0,.slice none 0 0] 70)):=al (Below.refl _ _) _
      have X3:=hide (bt X2.out y3 (Nat.le_refl _))
      have HS3:=hide (DW.out _ X3.out)
      have B3:Hid ((w2.alloc (.cells #[.slice none 0 0,.slice none 0 0] 70)).heap[w2.heap.size]? =some (.cells #[.slice none 0 0,.slice none 0 0] 70 (0,0))):=heap_alloc_new w2 _
      have LX3:=hide (LX2.out.below y3)
      refine UntH.step (i:=10) (by kernel_rfl) rfl (fun K hK=>?_)
      go_simp
      refine hK _ _ HS3.out ?_
      clear hK K y3
      try simp only[Act.put,List.setIfInBounds_toArray,List.set_cons_zero,List.set_cons_succ]
      have SZ:Hid (wr.heap.size≤w2.heap.size):=X2.out.size
      generalize w2.alloc (.cells #[.slice none 0 0,.slice none 0 0] 70)=w3 at *
      generalize w2.heap.size=ob at *
      have s0:w3.cell? ⟨ob,0,none⟩=some (.slice none 0 0):=by rw[cell_of_row w3 _ _ _ _ _ B3.out];rfl
      have s1:w3.cell? ⟨ob,1,none⟩=some (.slice none 0 0):=by rw[cell_of_row w3 _ _ _ _ _ B3.out];rfl
      have g0:=frozen_of_row w3 ob 0 _ _ B3.out
      have g1:=frozen_of_row w3 ob 1 _ _ B3.out
      have k9:Kept (fun z=>z=ob) w3 ((w3.setCell ⟨ob,0,none⟩ (.slice r1 n1 c1)).setCell ⟨ob,1,none⟩ (.slice l1 n2 c2)):=((Kept.refl (fun z=>z=ob) w3).setCell (p:=⟨ob,0,none⟩) rfl _).setCell (p:=⟨ob,1,none⟩) rfl _
      have X9:=hide (X3.out.trans (k9.below X3.out.size (fun z hz=>by rw[hz];exact SZ.out)))
      have LX9:=hide (LX3.out.store B3.out k9)
      have HS9:=hide (DW.out _ X9.out)
      have B9:Hid (((w3.setCell ⟨ob,0,none⟩ (.slice r1 n1 c1)).setCell ⟨ob,1,none⟩ (.slice l1 n2 c2)).heap[ob]? =some (.cells #[.slice r1 n1 c1,.slice l1 n2 c2] 70 (0,0))):=by
       have:=block_setCell (block_setCell B3.out 0 (.slice r1 n1 c1)) 1 (.slice l1 n2 c2)
       simpa [Hid] using this
      refine UntH.step (i:=11) (by kernel_rfl) rfl (fun K hK=>?_)
      go_simp
      refine hK _ _ HS9.out ?_
      clear hK K s0 s1 g0 g1 k9
      try simp only[Act.put,List.setIfInBounds_toArray,List.set_cons_zero,List.set_cons_succ]
      generalize ((w3.setCell ⟨ob,0,none⟩ (.slice r1 n1 c1)).setCell ⟨ob,1,none⟩ (.slice l1 n2 c2))=w9 at *
      refine UntH.last (by kernel_rfl) rfl (by kernel_rfl) (by kernel_rfl) (fun K hK=>?_)
      go_simp
      refine hK _ _ ?_
      clear hK K
      go_wp2
      go_meet
      exact⟨ob,r1,n1,c1,l1,n2,c2,bb,rfl,rfl,B9,SZ,LX9,X9⟩
     ·have y2:Below w1.heap.size w1 (w1.alloc (.cells #[.slice none 0 0,.slice none 0 0] 70)):=al (Below.refl _ _) _
      have X2:=hide (bt X1.out y2 (Nat.le_refl _))
      have HS2:=hide (DW.out _ X2.out)
      have B2:Hid ((w1.alloc (.cells #[.slice none 0 0,.slice none 0 0] 70)).heap[w1.heap.size]? =some (.cells #[.slice none 0 0,.slice none 0 0] 70 (0,0))):=heap_alloc_new w1 _
      go_simp
      refine hK _ _ HS2.out ?_
      clear hK K y2
      try simp only[Act.put,List.setIfInBounds_toArray,List.set_cons_zero,List.set_cons_succ]
      have SZ:Hid (wr.heap.size≤w1.heap.size):=X1.out.size
      generalize w1.alloc (.cells #[.slice none 0 0,.slice none 0 0] 70)=w2 at *
      generalize w1.heap.size=ob at *
      refine UntH.step (i:=6) (by kernel_rfl) rfl (fun K hK=>?_)
      go_simp
      refine(LFT.out w2 X2.out).mono ?_
      rintro en w3 ⟨r1,n1,c1,l1,n2,c2,bb,rfl,lx,x3⟩
      have X3:=hide (bt X2.out x3 (Nat.le_refl _))
      have HS3:=hide (DW.out _ X3.out)
      have LX3:=hide lx
      have B3:Hid (w3.heap[ob]? =some (.cells #[.slice none 0 0,.slice none 0 0] 70 (0,0))):=(x3.block ob (lt_of_block B2.out)).trans B2.out
      refine hK _ _ HS3.out ?_
      clear hK K x3 lx
      try simp only[Act.put,List.setIfInBounds_toArray,List.set_cons_zero,List.set_cons_succ]
      refine UntH.tk 7 rfl 39 HS3.out (fun w' ⟨q0,q1⟩=>by go_simp;first|done|rfl) ?_
      refine UntH.tk 8 rfl 47 HS3.out (fun w' ⟨q0,q1⟩=>by go_simp;first|done|rfl) ?_
      refine UntH.tk 9 rfl 48 HS3.out (fun w' ⟨q0,q1⟩=>by go_simp;first|done|rfl) ?_
      try simp only[Act.put,List.setIfInBounds_toArray,List.set_cons_zero,List.set_cons_succ]
      have s0:w3.cell? ⟨ob,0,none⟩=some (.slice none 0 0):=by rw[cell_of_row w3 _ _ _ _ _ B3.out];rfl
      have s1:w3.cell? ⟨ob,1,none⟩=some (.slice none 0 0):=by rw[cell_of_row w3 _ _ _ _ _ B3.out];rfl
      have g0:=frozen_of_row w3 ob 0 _ _ B3.out
      have g1:=frozen_of_row w3 ob 1 _ _ B3.out
      have k9:Kept (fun z=>z=ob) w3 ((w3.setCell ⟨ob,0,none⟩ (.slice r1 n1 c1)).setCell ⟨ob,1,none⟩ (.slice l1 n2 c2)):=((Kept.refl (fun z=>z=ob) w3).setCell (p:=⟨ob,0,none⟩) rfl _).setCell (p:=⟨ob,1,none⟩) rfl _
      have X9:=hide (X3.out.trans (k9.below X3.out.size (fun z hz=>by rw[hz];exact SZ.out)))
      have LX9:=hide (LX3.out.store B3.out k9)
      have HS9:=hide (DW.out _ X9.out)
      have B9:Hid (((w3.setCell ⟨ob,0,none⟩ (.slice r1 n1 c1)).setCell ⟨ob,1,none⟩ (.slice l1 n2 c2)).heap[ob]? =some (.cells #[.slice r1 n1 c1,.slice l1 n2 c2] 70 (0,0))):=by
       have:=block_setCell (block_setCell B3.out 0 (.slice r1 n1 c1)) 1 (.slice l1 n2 c2)
       simpa [Hid] using this
      refine UntH.step (i:=11) (by kernel_rfl) rfl (fun K hK=>?_)
      go_simp
      refine hK _ _ HS9.out ?_
      clear hK K s0 s1 g0 g1 k9
      try simp only[Act.put,List.setIfInBounds_toArray,List.set_cons_zero,List.set_cons_succ]
      generalize ((w3.setCell ⟨ob,0,none⟩ (.slice r1 n1 c1)).setCell ⟨ob,1,none⟩ (.slice l1 n2 c2))=w9 at *
      refine UntH.last (by kernel_rfl) rfl (by kernel_rfl) (by kernel_rfl) (fun K hK=>?_)
      go_simp
      refine hK _ _ ?_
      clear hK K
      go_wp2
      go_meet
      exact⟨ob,r1,n1,c1,l1,n2,c2,bb,rfl,rfl,B9,SZ,LX9,X9⟩
    ·have y1:Below w0.heap.size w0 (w0.alloc (.cells #[.slice none 0 0,.slice none 0 0] 70)):=al (Below.refl _ _) _
     have X1:=hide (bt X0.out y1 (Nat.le_refl _))
     have HS1:=hide (DW.out _ X1.out)
     have B1:Hid ((w0.alloc (.cells #[.slice none 0 0,.slice none 0 0] 70)).heap[w0.heap.size]? =some (.cells #[.slice none 0 0,.slice none 0 0] 70 (0,0))):=heap_alloc_new w0 _
     go_simp
     refine hK _ _ HS1.out ?_
     clear hK K y1
     try simp only[Act.put,List.setIfInBounds_toArray,List.set_cons_zero,List.set_cons_succ]
     have SZ:Hid (wr.heap.size≤w0.heap.size):=X0.out.size
     generalize w0.alloc (.cells #[.slice none 0 0,.slice none 0 0] 70)=w1 at *
     generalize w0.heap.size=ob at *
     refine UntH.step (i:=3) (by kernel_rfl) rfl (fun K hK=>?_)
     go_simp
     refine(PLC.out w1 X1.out).mono ?_
     rintro en w2 ⟨rfl,x2⟩
     have X2:=hide (bt X1.out x2 (Nat.le_refl _))
     have HS2:=hide (DW.out _ X2.out)
     have B2:Hid (w2.heap[ob]? =some (.cells #[.slice none 0 0,.slice none 0 0] 70 (0,0))):=(x2.block ob (lt_of_block B1.out)).trans B1.out
     refine hK _ _ HS2.out ?_
     clear hK K x2
     try simp only[Act.put,List.setIfInBounds_toArray,List.set_cons_zero,List.set_cons_succ]
     refine UntH.step (i:=6) (by kernel_rfl) rfl (fun K hK=>?_)
     go_simp
     refine(LFT.out w2 X2.out).mono ?_
     rintro en w3 ⟨r1,n1,c1,l1,n2,c2,bb,rfl,lx,x3⟩
     have X3:=hide (bt X2.out x3 (Nat.le_refl _))
     have HS3:=hide (DW.out _ X3.out)
     have LX3:=hide lx
     have B3:Hid (w3.heap[ob]? =some (.cells #[.slice none 0 0,.slice none 0 0] 70 (0,0))):=(x3.block ob (lt_of_block B2.out)).trans B2.out
     refine hK _ _ HS3.out ?_
     clear hK K x3 lx
     try simp only[Act.put,List.setIfInBounds_toArray,List.set_cons_zero,List.set_cons_succ]
     refine UntH.tk 7 rfl 39 HS3.out (fun w' ⟨q0,q1⟩=>by go_simp;first|done|rfl) ?_
     refine UntH.tk 8 rfl 47 HS3.out (fun w' ⟨q0,q1⟩=>by go_simp;first|done|rfl) ?_
     refine UntH.tk 9 rfl 48 HS3.out (fun w' ⟨q0,q1⟩=>by go_simp;first|done|rfl) ?_
     try simp only[Act.put,List.setIfInBounds_toArray,List.set_cons_zero,List.set_cons_succ]
     have s0:w3.cell? ⟨ob,0,none⟩=some (.slice none 0 0):=by rw[cell_of_row w3 _ _ _ _ _ B3.out];rfl
     have s1:w3.cell? ⟨ob,1,none⟩=some (.slice none 0 0):=by rw[cell_of_row w3 _ _ _ _ _ B3.out];rfl
     have g0:=frozen_of_row w3 ob 0 _ _ B3.out
     have g1:=frozen_of_row w3 ob 1 _ _ B3.out
     have k9:Kept (fun z=>z=ob) w3 ((w3.setCell ⟨ob,0,none⟩ (.slice r1 n1 c1)).setCell ⟨ob,1,none⟩ (.slice l1 n2 c2)):=((Kept.refl (fun z=>z=ob) w3).setCell (p:=⟨ob,0,none⟩) rfl _).setCell (p:=⟨ob,1,none⟩) rfl _
     have X9:=hide (X3.out.trans (k9.below X3.out.size (fun z hz=>by rw[hz];exact SZ.out)))
     have LX9:=hide (LX3.out.store B3.out k9)
     have HS9:=hide (DW.out _ X9.out)
     have B9:Hid (((w3.setCell ⟨ob,0,none⟩ (.slice r1 n1 c1)).setCell ⟨ob,1,none⟩ (.slice l1 n2 c2)).heap[ob]? =some (.cells #[.slice r1 n1 c1,.slice l1 n2 c2] 70 (0,0))):=by
      have:=block_setCell (block_setCell B3.out 0 (.slice r1 n1 c1)) 1 (.slice l1 n2 c2)
      simpa [Hid] using this
     refine UntH.step (i:=11) (by kernel_rfl) rfl (fun K hK=>?_)
     go_simp
     refine hK _ _ HS9.out ?_
     clear hK K s0 s1 g0 g1 k9
     try simp only[Act.put,List.setIfInBounds_toArray,List.set_cons_zero,List.set_cons_succ]
     generalize ((w3.setCell ⟨ob,0,none⟩ (.slice r1 n1 c1)).setCell ⟨ob,1,none⟩ (.slice l1 n2 c2))=w9 at *
     refine UntH.last (by kernel_rfl) rfl (by kernel_rfl) (by kernel_rfl) (fun K hK=>?_)
     go_simp
     refine hK _ _ ?_
     clear hK K
     go_wp2
     go_meet
     exact⟨ob,r1,n1,c1,l1,n2,c2,bb,rfl,rfl,B9,SZ,LX9,X9⟩
   obtain⟨ob,r1,n1,c1,l1,n2,c2,bb,rfl,rfl,B9,SZ9,LX9,X9⟩:=hcut
   clear PLC LFT DW
   cases bb with
   |false=>
    go_upto_region 9 with fail
    go_wp2
    refine bodyPost_ret (v:=.tuple #[.pointer none,.slice none 0 0,.int .i64 2]) (by simp[results,Try.results12,go_sem];try rfl) rfl ?_
    have hA:=RI.out
    rw[EL.out] at hA
    have h1:=LX9.out.2 rfl
    rw[head_next (hA.head HAK.out) hlk (HBL.out.trans HOV.out.symm)] at h1
    have h2:=h1.full HSZ.out HOR.out RI.out.gd h0 h8 (by omega)
    exact⟨.inr ⟨by rw[h2];decide,by rw[h2]⟩,bt RI.out.bel X9.out (Nat.le_refl _),_,_,RI.out.gd⟩
   |true=>
    obtain⟨rfl,rfl,rfl,lb2,Ls2,rfl,rfl,D2,G2,e2⟩:=LX9.out.1 rfl
    have hA:=RI.out
    rw[EL.out] at hA
    have s0:wc.cell? ⟨ob,0,none⟩=some (.slice r1 R.length c1):=by rw[cell_of_row wc _ _ _ _ _ B9.out];rfl
    have s1:wc.cell? ⟨ob,1,none⟩=some (.slice (some ⟨lb2,0,none⟩) Ls2.length c2):=by rw[cell_of_row wc _ _ _ _ _ B9.out];rfl
    have bd:=(X9.out.block _ (lt_of_block RI.out.blk)).trans RI.out.blk
    have d0:wc.cell? ⟨dc,0,none⟩=some (.slice r1 R.length c1):=by rw[cell_of_row wc _ _ _ _ _ bd];rfl
    have d1:wc.cell? ⟨dc,1,none⟩=some (.slice (some ⟨lb1,0,none⟩) Ls1.length lc1):=by rw[cell_of_row wc _ _ _ _ _ bd];rfl
    have g0:=frozen_of_row wc dc 0 _ _ bd
    have g1:=frozen_of_row wc dc 1 _ _ bd
    have FIN:=hide (hA.step HAK.out hlk (HBL.out.trans HOV.out.symm) LDC.out X9.out D2 G2 e2 rfl)
    clear bd hA D2 G2 e2 LX9 B9
    go_wp2
    clear s0 s1 d0 d1 g0 g1
    generalize (wc.setCell ⟨dc,0,none⟩ (.slice r1 R.length c1)).setCell ⟨dc,1,none⟩ (.slice (some ⟨lb2,0,none⟩) Ls2.length c2)=wy at *
    go_roundw
    case rel=>exact⟨k+1,by omega,by go_num,_,_,_,FIN⟩
    case measure=>simp[RowKit.intOf];omega
  ·have hlk':¬(k:Int)<(o.length:Int):=by omega
   obtain rfl:k=o.length:=by omega
   have d0:wr.cell? ⟨dc,0,none⟩=some (.slice ra R.length rc):=by rw[cell_of_row wr _ _ _ _ _ RI.out.blk];rfl
   have d1:wr.cell? ⟨dc,1,none⟩=some (.slice (some ⟨lb1,0,none⟩) Ls1.length lc1):=by rw[cell_of_row wr _ _ _ _ _ RI.out.blk];rfl
   have BU:=hide (RI.out.build HSZ.out HSM.out HOR.out h0 h8 (by rw[HRL.out];exact hl))
   go_wp2_with (go_at_call 34;refine BU.out.mono ?_;rintro e w6 h6;obtain⟨v1,v2,v3,rfl⟩:∃v1 v2 v3,e=.returned (.tuple #[v1,v2,v3]):=(by rcases h6.1 with⟨_,_,_,_,_,h,_⟩|⟨_,h⟩<;>exact⟨_,_,_,h⟩);have H6:=hide h6;clear h6)
   refine bodyPost_ret (v:=.tuple #[v1,v2,v3]) (by simp[results,Try.results12,go_sem];try rfl) rfl ?_
   have h:=H6.out
   rw[HRL.out] at h
   exact h
end
end Go.Proofs.Ytnddhkhmbjeefaa

