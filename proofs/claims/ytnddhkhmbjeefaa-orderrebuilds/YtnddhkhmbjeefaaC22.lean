/-
  read by its contract. Condition: refs of the arena, at most 65536.
-/
import Derived.Laws.ResultCell
import Derived.Test.YtnddhkhmbjeefaaC21
import Derived.Test.YtnddhkhmbjeefaaC18
import Derived.Test.YtnddhkhmbjeefaaC07
namespace Go.Proofs.Ytnddhkhmbjeefaa
open Go.RowKit Go.Lib Go.Maps
def RdL (S:List Int) (N:List Nd) (rs:List Int) (w:World) (e:Ending) (w':World):Prop:=
 ∃ra rc lb lc R Ls,e=.returned (dgV ra rs.length rc lb S.length lc)∧DgX w' w'.heap.size ra lb lc R Ls∧R.length=rs.length∧Ls.length=S.length∧GD S (rs.map fun f p=>sayR N p f) R (layL Ls)∧(∃Q',ChP S N 0 (adds [0,1] rs) (layL Ls) Q')∧Below w.heap.size w w'
section
variable {w:World} {a:Nat} {S:List Int} {M:Int} {N:List Nd} {m:Nat} {PA:Nat→Prop} {rs:List Int}
theorem adds_few {l:Nat} {Q:List Int} (hok:Ok S M N) (hl:l<S.length) (hq:QOk S N l Q) (k:Nat):(adds [0,1] ((Q.take k).flatMap (kidsN S N l))).length≤N.length+2:=by
 refine QOk.few (S:=S) (l:=l+1) (QOk.adds (by omega) (fun f hf=>?_))
 obtain⟨g,hg,hx⟩:=List.mem_flatMap.1 hf
 have hg':=hq.has g (List.mem_of_mem_take hg)
 obtain⟨c,hc,rfl⟩:=kidsN_mem hok hl hg'.1 hx
 obtain⟨h1,h2⟩:=kidR_has hok hl hg'.1 hg'.2 hc
 exact⟨h1,by omega⟩
set_option maxRecDepth 100000 in
set_option maxHeartbeats 4000000 in
theorem read_any (ao:Option Addr) (cap:Nat) (hA:CA w a S M N m PA) (hz:ZAt w ao rs) (hrs:∀f∈rs,hasR N f) (hl:rs.length≤268435456):
 Calls Try.prog 31 #[.pointer (some ⟨a,0,none⟩),.slice ao rs.length cap] w fun e w'=>RdL S N rs w e w':=by
 obtain⟨i21,hi21,hz210,hz211,hz212⟩:=info_parts Try.info21
 obtain⟨i105,hi105,hz1050,hz1051,hz1052⟩:=info_parts Try.info105
 have HA:=hide hA
 have HZ:=hide hz
 have HRS:=hide hrs
 have HOK:=hide hA.ok
 have HM8:=hide hA.m8
 clear hA hz hrs
 have y0:Below w.heap.size w ((w.alloc (.cells #[.slice none 0 0,.slice none 0 0] 70)).alloc (.cells #[.slice none 0 0,.slice none 0 0] 70)):=al (al (Below.refl _ _) _) _
 have Y0:=hide y0
 have b0:((w.alloc (.cells #[.slice none 0 0,.slice none 0 0] 70)).alloc (.cells #[.slice none 0 0,.slice none 0 0] 70)).heap[w.heap.size]? =some (.cells #[.slice none 0 0,.slice none 0 0] 70 (0,0)):=((al (Below.refl _ (w.alloc (.cells #[.slice none 0 0,.slice none 0 0] 70))) (.cells #[.slice none 0 0,.slice none 0 0] 70)).block _ (by simp)).trans (heap_alloc_new w _)
 have b1:((w.alloc (.cells #[.slice none 0 0,.slice none 0 0] 70)).alloc (.cells #[.slice none 0 0,.slice none 0 0] 70)).heap[w.heap.size+1]? =some (.cells #[.slice none 0 0,.slice none 0 0] 70 (0,0)):=by
  have:=heap_alloc_new (w.alloc (.cells #[.slice none 0 0,.slice none 0 0] 70)) (.cells #[.slice none 0 0,.slice none 0 0] 70)
  simpa using this
 have B0:=hide (And.intro b0 b1)
 clear y0 b0 b1
 go_enter Try.func31,Try.ntmps31
 go_upto_region 3 with(go_at_call 54;refine(newRefs_any _).mono ?_;rintro en w1 ⟨r,rfl,P0,hr,hn,hb⟩;have HR:=hide hr;have HN:=hide hn;have HB:=hide hb;clear hr hn hb)
 have B1:Hid (w1.heap[w.heap.size]? =some (.cells #[.slice none 0 0,.slice none 0 0] 70 (0,0))∧w1.heap[w.heap.size+1]? =some (.cells #[.slice none 0 0,.slice none 0 0] 70 (0,0))):=⟨(HB.out.block _ (lt_of_block B0.out.1)).trans B0.out.1,(HB.out.block _ (lt_of_block B0.out.2)).trans B0.out.2⟩
 have Y1:=hide (bt Y0.out HB.out (Nat.le_refl _))
 obtain⟨P1,hr1,hs1,ht1⟩:=HR.out.exact
 have ST:Hid (Rd1 w w1 (w.heap.size+1) r rs 0 [] (.slice none 0 0) P1):=⟨B1.out.1,B1.out.2,World.ownsRow_nil _ _ _ _,rfl,by simpa [adds] using hr1,ht1,fun z hz=>Nat.le_trans Y0.out.size (HN.out z (hs1 z hz)),Y1.out,Nat.lt_succ_self _,fun j hj hk=>by omega⟩
 clear hr1 hs1 ht1 HR HN HB Y0 Y1 B0 B1
 have HD:Hid (w.heap.size+1=w.heap.size+1):=rfl
 generalize hdd:w.heap.size+1=d at *
 clear hdd HD
 go_wp2
 go_loopw [18] (fun v18 wr=>∃k:Nat,k≤rs.length∧v18=.int .i64 (k:Int)∧∃R ra rc P,Hid (Rd1 w wr d r rs k R (.slice ra k rc) P)) (fun v _=>rs.length-(RowKit.intOf v).toNat)
 case atStart=>exact⟨0,Nat.zero_le _,rfl,[],none,0,P1,ST⟩
 case round=>
  obtain⟨k,hk,rfl,R,ra,rc,P,RI⟩:=hrel
  clear ST
  by_cases hlk:k<rs.length
  ·have hlk':(k:Int)<(rs.length:Int):=by omega
   obtain⟨zb,zo,hao,_,q1⟩:=(HZ.out.below RI.out.bel).get hlk
   subst hao
   rw[show rs.getD k 0=rs[k] by rw[List.getD_eq_getElem?_getD,List.getElem?_eq_getElem hlk];rfl] at q1
   have hU:(adds [0,1] (rs.take k)).length<1073741824:=by
    obtain⟨U,h1,h2,_⟩:=adds_ext (rs.take k) [0,1]
    rw[h1,List.length_append]
    rw[List.length_take] at h2
    simp
    omega
   have hkb:0≤rs[k]∧rs[k]≤4294967296:=by
    have h1:=HRS.out rs[k] (List.getElem_mem hlk)
    have h2:=h1.1
    have h3:=h1.2
    have h4:=HOK.out.few
    have h5:=HM8.out
    exact⟨h2,by omega⟩
   go_upto_region 6 with fail
   have XD:Hid (Below wr.heap.size wr wr.drew):=(Below.refl _ _).drew
   have R1:=hide (RI.out.below XD.out)
   have PL:=hide (R1.out.rf.place hkb hU)
   clear RI q1 hU hkb
   refine wp_unt (S:=fun V=>V.cell? ⟨d,0,none⟩=some (.slice ra k rc)) 8 (by kernel_rfl) ?_
   generalize wr.drew=wd at *
   have HS0:Hid (wd.cell? ⟨d,0,none⟩=some (.slice ra k rc)):=by unfold Hid;rw[cell_of_row wd d _ _ _ _ R1.out.dbl];rfl
   refine UntH.tk 0 rfl 22 HS0.out (fun w' q0=>by go_simp;first|done|rfl) ?_
   refine UntH.tk 1 rfl 23 HS0.out (fun w' q0=>by go_simp;first|done|rfl) ?_
   refine UntH.tk 2 rfl 24 HS0.out (fun w' q0=>by go_simp;first|done|rfl) ?_
   refine UntH.tk 3 rfl 25 HS0.out (fun w' q0=>by go_simp;first|done|rfl) ?_
   try simp only[Act.put,List.setIfInBounds_toArray,List.set_cons_zero,List.set_cons_succ]
   refine UntH.step (i:=4) (by kernel_rfl) rfl (fun K hK=>?_)
   go_simp
   refine PL.out.mono ?_
   rintro en w2 ⟨i,rfl,hi2,P2,hr2,hk2,hn2⟩
   have D2:Hid (w2.heap[d]? =some (.cells #[.slice ra k rc,.slice none 0 0] 70 (0,0))):=(hk2.block d (lt_of_block R1.out.dbl) (R1.out.ty.ne R1.out.dbl (by decide) (by decide))).trans R1.out.dbl
   have O2:Hid (w2.ownsRow w.heap.size 21 1 (.slice ra k rc) k (iC R)):=own_kept R1.out.row hk2 (fun z hz=>by
    obtain⟨cs',h5⟩:=own_ty R1.out.row _ hz
    exact R1.out.ty.ne h5 (by decide) (by decide))
   have HS2:Hid (w2.cell? ⟨d,0,none⟩=some (.slice ra k rc)):=by unfold Hid;rw[cell_of_row w2 d _ _ _ _ D2.out];rfl
   have SW2:=hide (Nat.le_trans R1.out.bel.size hk2.size)
   have HI2:=hide (And.intro hi2 hr2)
   have HK2:=hide (And.intro hk2 hn2)
   refine hK _ _ HS2.out ?_
   clear hK K hi2 hr2 hk2 hn2 PL
   try simp only[Act.put,List.setIfInBounds_toArray,List.set_cons_zero,List.set_cons_succ]
   have X3:Hid (Below w2.heap.size w2 (w2.alloc (.cells #[.int .i32 (i:Int)] 21))):=al (Below.refl _ _) _
   have D3:=hide ((X3.out.block d (lt_of_block D2.out)).trans D2.out)
   have O3:=hide (own_below O2.out X3.out)
   have HNW:=hide (one_new w2 (.int .i32 (i:Int)) 21)
   have HS3:Hid ((w2.alloc (.cells #[.int .i32 (i:Int)] 21)).cell? ⟨d,0,none⟩=some (.slice ra k rc)):=by unfold Hid;rw[cell_of_row _ d _ _ _ _ D3.out];rfl
   have SW3:=hide (Nat.le_trans SW2.out X3.out.size)
   refine UntH.step (i:=5) (by kernel_rfl) rfl (fun K hK=>?_)
   go_simp
   refine hK _ _ HS3.out ?_
   clear hK K
   generalize w2.alloc (.cells #[.int .i32 (i:Int)] 21)=w3 at *
   refine UntH.step (i:=6) (by kernel_rfl) rfl (fun K hK=>?_)
   refine step_append_lies _ (by rfl) (.tmp 23) (.tmp 27) 67 (by rfl) w.heap.size 21 i21 (.int .i32 0) 1 4 Try.underlying67 hi21 hz210 hz211 hz212 rfl (by decide) _ k (iC R) (by rfl) O3.out ⟨w2.heap.size,0,none⟩ 1 1 [.int .i32 (i:Int)] (by rfl) (by rfl) HNW.out (by simp[Value.oneCell']) (by decide) (by unfold maxLen;omega) (by omega) SW3.out _ rfl ?_
   intro g4 cap4 w4 h1 h2 h3 h4
   have O4:=hide h1
   have G4:=hide h2
   have D4:Hid (w4.heap[d]? =some (.cells #[.slice ra k rc,.slice none 0 0] 70 (0,0))):=((kept_of_grown h2).block d (lt_of_block D3.out) (fun hz=>by
    obtain⟨cs',h5⟩:=own_ty O3.out _ hz
    exact ty_ne h5 D3.out (by decide) rfl)).trans D3.out
   have HS4:Hid (w4.cell? ⟨d,0,none⟩=some (.slice ra k rc)):=by unfold Hid;rw[cell_of_row _ d _ _ _ _ D4.out];rfl
   have f4:=frozen_of_row w4 d 0 _ _ D4.out
   refine hK _ _ HS4.out ?_
   clear hK K h1 h2 h3 h4
   refine UntH.tk 7 rfl 29 HS4.out (fun w' q0=>by go_simp;first|done|rfl) ?_
   have q4:=HS4.out
   refine UntH.last (by kernel_rfl) rfl (by kernel_rfl) (by kernel_rfl) (fun K hK=>?_)
   go_simp
   refine hK _ _ ?_
   clear hK K q4 f4 HS4 HS3 HS2 HS0
   obtain⟨P5,R5⟩:=R1.out.step hlk HI2.out.1 HI2.out.2 HK2.out.1 HK2.out.2 X3.out O4.out G4.out
   have R5':=hide R5
   clear R5 O4 G4 D4 D3 D2 O3 O2 HNW HI2 HK2 X3 R1 SW2 SW3
   generalize w4.setCell ⟨d,0,none⟩ (.slice (some ⟨g4,0,none⟩) (k+1) cap4)=w5 at *
   go_wp2
   go_roundw
   case rel=>exact⟨k+1,by omega,by go_num,_,_,_,P5,R5'⟩
   case measure=>simp[RowKit.intOf];omega
  ·have hlk':¬(k:Int)<(rs.length:Int):=by omega
   obtain rfl:k=rs.length:=by omega
   go_upto_region 9 with(go_at_call 17;refine((HA.out.below RI.out.bel).sizes).mono ?_;rintro en w2 ⟨⟨g,cg,rfl,ho,hz,hg⟩,hb⟩;have HZ2:=hide hz;have HB2:=hide hb;clear ho hz hg hb)
   have R1:=hide (RI.out.below HB2.out)
   have RL:Hid (R.length=rs.length):=R1.out.len
   have RAT:Hid (∀k (hk:k<rs.length),0≤R.getD k 0∧(adds [0,1] rs)[(R.getD k 0).toNat]? =some rs[k]):=fun k hk=>by
    have:=R1.out.at_ k hk hk
    rwa [List.take_length] at this
   have ST2:Hid (Rd2 S N w w2 d g r rs R (.slice ra rs.length rc) (.slice none 0 0) 0 [] (adds [0,1] rs) P):=by
    have h1:=R1.out.rf
    rw[List.take_length] at h1
    have h2:=R1.out.row
    exact⟨R1.out.res,R1.out.dbl,by rw[RL.out];exact h2,World.ownsRow_nil _ _ _ _,fun x hx=>(by cases hx),rfl,h1,R1.out.ty,R1.out.new,R1.out.bel,R1.out.hd,HZ2.out,rfl,QOk.adds (Nat.zero_le _) (fun f hf=>⟨HRS.out f hf,(HOK.out.lvl_le (HRS.out f hf)).1⟩)⟩
   clear RI R1 HZ2 HB2
   go_wp2
   go_loopw [6,34] (fun v6 v34 wr=>∃l r2:Nat,l≤S.length∧v6=.pointer (some ⟨r2,0,none⟩)∧v34=.int .i64 (l:Int)∧∃la lc Ls Q P,Hid (Rd2 S N w wr d g r2 rs R (.slice ra rs.length rc) (.slice la l lc) l Ls Q P)) (fun _ v _=>S.length-(RowKit.intOf v).toNat)
   case atStart=>exact⟨0,r,Nat.zero_le _,rfl,rfl,none,0,[],_,P,ST2⟩
   case round=>
    obtain⟨l,r2,hls,rfl,rfl,la,lc,Ls,Q,P2,R2⟩:=hrel
    clear ST2
    generalize wr=wo at *
    by_cases hlS:l<S.length
    ·have hlS':(l:Int)<(S.length:Int):=by omega
     have q1:=R2.out.zs.cell hlS
     have hsz:1≤S.getD l 0∧S.getD l 0≤256:=HOK.out.sz.at (lv:=(l:Int)) (by omega) (by omega)
     obtain⟨s0,hs0⟩:∃s0:Nat,(s0:Int)=S.getD l 0:=⟨(S.getD l 0).toNat,by omega⟩
     rw[←hs0] at q1 hsz
     have HS0:=hide hs0
     have hQ:=R2.out.ok.few
     have hN1:=HOK.out.few
     have hN2:=HM8.out
     have hQ2:Q.length≤8194:=by omega
     have hQ1:=some_lt R2.out.ok.z1
     have hl12:=HOK.out.sz.le
     clear hs0 hQ hN1 hN2
     obtain⟨lvq,mbq,hX⟩:=R2.out.rf
     obtain⟨qa,qc,hlvq,hqa⟩:=own_shape hX.row
     obtain⟨gq,rfl⟩:=hqa (by omega)
     subst hlvq
     have HX:=hide hX
     clear hX hqa
     have hmk:=make_rows Q.length (Q.length:Int) rfl (by omega)
     go_upto_region 12 with(go_at_call 54;refine(newRefs_any _).mono ?_;rintro en wn ⟨nx,rfl,Pn,hr,hn,hb⟩;have HRn:=hide hr;have HNn:=hide hn;have HBn:=hide hb;clear hr hn hb)
     have HXn:=hide (HX.out.below HBn.out)
     have c0:=HXn.out.cells.1
     have YM:Hid (Below wn.heap.size wn (wn.alloc (.cells (Array.replicate Q.length (.slice none 0 0)) 102))):=al (Below.refl _ _) _
     have c1:=(HXn.out.below YM.out).cells.1
     have BM:=hide (BlB.made wn Q.length)
     clear q1
     go_upto_region 14 with fail
     have Y2:=hide (bt HBn.out YM.out (Nat.le_refl _))
     have HRm:=hide (HRn.out.below YM.out)
     have SZb:=hide HBn.out.size
     clear c0 c1 hmk HXn HRn YM
     generalize wn.alloc (.cells (Array.replicate Q.length (.slice none 0 0)) 102)=wm at *
     generalize wn.heap.size=bb at *
     obtain⟨Pm,hrm,hsm,htm⟩:=HRm.out.exact
     have ST3:Hid (Rd3 S N l Q wo wm nx bb 0 [] Pm):=⟨by simpa [adds] using hrm,htm,fun z hz=>HNn.out z (hsm z hz),BM.out,SZb.out,rfl,fun i hi=>(by cases hi),Y2.out⟩
     clear hrm hsm htm HRm BM HBn HNn SZb Y2
     go_wp2
     go_loopw [51] (fun v51 wr=>∃k:Nat,k≤Q.length∧v51=.int .i64 (k:Int)∧∃BL P',Hid (Rd3 S N l Q wo wr nx bb k BL P')) (fun v _=>Q.length-(RowKit.intOf v).toNat)
     case atStart=>exact⟨0,Nat.zero_le _,rfl,[],Pm,ST3⟩
     case round=>
      obtain⟨k,hk,rfl,BL,P3,R3⟩:=hrel
      clear ST3
      by_cases hlk:k<Q.length
      ·have hlk':(k:Int)<(Q.length:Int):=by omega
       have q1:wr.cell? ⟨gq,k,none⟩=some (.int .i64 Q[k]):=by
        have h1:=World.ownsRow.cellAt (HX.out.below R3.out.bel).row k (by simpa [zC] using hlk)
        rw[h1]
        simp[zC,List.getElem?_eq_getElem hlk]
       have HFK:Hid (hasR N Q[k]):=(R2.out.ok.has _ (List.getElem_mem hlk)).1
       have HA3:=hide ((HA.out.below R2.out.bel).below R3.out.bel)
       have hfw:=adds_few HOK.out hlS R2.out.ok k
       have hfw2:=adds_few HOK.out hlS R2.out.ok (k+1)
       have hN1:=HOK.out.few
       have hN2:=HM8.out
       have HFW:Hid ((adds [0,1] ((Q.take k).flatMap (kidsN S N l))).length<100000∧(adds [0,1] ((Q.take (k+1)).flatMap (kidsN S N l))).length<100000):=⟨by omega,by omega⟩
       have CR:=hide (readRow_any (s:=s0) HA3.out R3.out.rf HFK.out HFW.out.1 hlS HS0.out)
       clear hfw hfw2 hN1 hN2 HA3
       go_wp2_with (go_at_call 56;refine CR.out.mono ?_;rintro en w5 ⟨f5,g5,c5,P5,rfl,hr5,hg5,hc51,hc52,hrf5,hk5,hn5,hf5⟩;have BL5:=hide (R3.out.bl.kept hk5 (by obtain⟨cs0,hcs0,_⟩:=R3.out.bl;exact R3.out.ty.ne hcs0 (by decide) (by decide)));have H5:=hide (And.intro hr5 (And.intro hc51 (And.intro hc52 (And.intro hrf5 (And.intro hk5 (And.intro hn5 hf5))))));obtain⟨⟨vr5,hvr5⟩,fr5⟩:=BL5.out.room hlk;clear hr5 hg5 hc51 hc52 hrf5 hk5 hn5 hf5)
       obtain⟨P6,R6⟩:=R3.out.step hlk (s:=s0) (by have:=HS0.out;omega) (by omega) (by omega) HFW.out.2 H5.out.1 H5.out.2.1 H5.out.2.2.1 H5.out.2.2.2.1 H5.out.2.2.2.2.1 H5.out.2.2.2.2.2.1 H5.out.2.2.2.2.2.2
       have R6':=hide R6
       clear R6 H5
       go_roundw
       case rel=>exact⟨k+1,by omega,by go_num,_,P6,R6'⟩
       case measure=>simp[RowKit.intOf];omega
      ·have hlk':¬(k:Int)<(Q.length:Int):=by omega
       obtain rfl:k=Q.length:=by omega
       have D3:Hid (wr.heap[d]? =some (.cells #[.slice ra rs.length rc,.slice la l lc] 70 (0,0))):=(R2.out.below R3.out.bel).dbl
       have O3:Hid (wr.ownsRow w.heap.size 105 2 (.slice la l lc) l (laC Ls)):=by
        have:=(R2.out.below R3.out.bel).lro
        rw[R2.out.len] at this
        exact this
       have d1:wr.cell? ⟨d,1,none⟩=some (.slice la l lc):=by rw[cell_of_row wr _ _ _ _ _ D3.out];rfl
       have X4:Hid (Below wr.heap.size wr (wr.alloc (.cells #[.int .i64 (l:Int),.slice (some ⟨bb,0,none⟩) Q.length Q.length] 105))):=al (Below.refl _ _) _
       have BQ:Hid (∀W:World,(wr.alloc (.cells #[.int .i64 (l:Int),.slice (some ⟨bb,0,none⟩) Q.length Q.length] 105)).grownBy W (Value.slice la l lc).ownBlock→W.heap[d]? =some (.cells #[.slice ra rs.length rc,.slice la l lc] 70 (0,0))):=fun W gW=>by
        have d4:=(X4.out.block d (lt_of_block D3.out)).trans D3.out
        exact((kept_of_grown gW).block d (lt_of_block d4) (fun hz=>by
         obtain⟨cs',h5⟩:=own_ty (own_below O3.out X4.out) _ hz
         exact ty_ne h5 d4 (by decide) rfl)).trans d4
       have SW:Hid (w.heap.size≤(wr.alloc (.cells #[.int .i64 (l:Int),.slice (some ⟨bb,0,none⟩) Q.length Q.length] 105)).heap.size):=Nat.le_trans (Nat.le_trans R2.out.bel.size R3.out.bel.size) X4.out.size
       go_wp2_with (at_builtin;refine wpList_append_lies _ rfl (.tmp 67) (.tmp 71) 68 rfl w.heap.size 105 i105 (.agg #[.int .i64 0,.slice none 0 0]) 2 32 Try.underlying68 hi105 hz1050 hz1051 hz1052 rfl (by decide) _ l (laC Ls) rfl (own_below O3.out X4.out) ⟨wr.heap.size,0,none⟩ 1 1 [.int .i64 (l:Int),.slice (some ⟨bb,0,none⟩) Q.length Q.length] rfl rfl (two_new wr _ _ _) (by simp[Value.oneCell']) (by decide) (by unfold maxLen;omega) (by omega) SW.out _ rfl ?_;intro g8 cap8 w8 h1 h2 h3 h4;have O8:=hide h1;have G8:=hide h2;have B8:=BQ.out w8 h2;have q8:w8.cell? ⟨d,1,none⟩=some (.slice la l lc):=(by rw[cell_of_row w8 d _ _ _ _ B8];rfl);have f8:=frozen_of_row w8 d 1 _ _ B8;clear h1 h2 h3 h4 B8)
       obtain⟨Q9,P9,R9⟩:=R2.out.step HOK.out HM8.out hlS R3.out Q.length X4.out O8.out G8.out
       have R9':=hide R9
       clear R9
       go_roundw
       case rel=>exact⟨l+1,nx,by omega,rfl,by go_num,_,_,_,Q9,P9,R9'⟩
       case measure=>simp[RowKit.intOf];omega
    ·have hlS':¬(l:Int)<(S.length:Int):=by omega
     obtain rfl:l=S.length:=by omega
     have o0:wo.cell? ⟨d,0,none⟩=some (.slice ra rs.length rc):=by rw[cell_of_row wo _ _ _ _ _ R2.out.dbl];rfl
     have o1:wo.cell? ⟨d,1,none⟩=some (.slice la S.length lc):=by rw[cell_of_row wo _ _ _ _ _ R2.out.dbl];rfl
     have s0:wo.cell? ⟨w.heap.size,0,none⟩=some (.slice none 0 0):=by rw[cell_of_row wo _ _ _ _ _ R2.out.res];rfl
     have s1:wo.cell? ⟨w.heap.size,1,none⟩=some (.slice none 0 0):=by rw[cell_of_row wo _ _ _ _ _ R2.out.res];rfl
     have g0:=frozen_of_row wo w.heap.size 0 _ _ R2.out.res
     have g1:=frozen_of_row wo w.heap.size 1 _ _ R2.out.res
     go_wp2
     have k10:Kept (fun z=>z=w.heap.size) wo ((wo.setCell ⟨w.heap.size,0,none⟩ (.slice ra rs.length rc)).setCell ⟨w.heap.size,1,none⟩ (.slice la S.length lc)):=((Kept.refl (fun z=>z=w.heap.size) wo).setCell (p:=⟨w.heap.size,0,none⟩) rfl _).setCell (p:=⟨w.heap.size,1,none⟩) rfl _
     have b10:((wo.setCell ⟨w.heap.size,0,none⟩ (.slice ra rs.length rc)).setCell ⟨w.heap.size,1,none⟩ (.slice la S.length lc)).heap[w.heap.size]? =some (.cells #[.slice ra rs.length rc,.slice la S.length lc] 70 (0,0)):=by
      have:=block_setCell (block_setCell R2.out.res 0 (.slice ra rs.length rc)) 1 (.slice la S.length lc)
      simpa using this
     clear s0 s1 g0 g1 o0 o1
     generalize (wo.setCell ⟨w.heap.size,0,none⟩ (.slice ra rs.length rc)).setCell ⟨w.heap.size,1,none⟩ (.slice la S.length lc)=w10 at *
     have r3:w10.cell? ⟨w.heap.size,0,none⟩=some (.slice ra rs.length rc):=by rw[cell_of_row w10 _ _ _ _ _ b10];rfl
     have r4:w10.cell? ⟨w.heap.size,1,none⟩=some (.slice la S.length lc):=by rw[cell_of_row w10 _ _ _ _ _ b10];rfl
     refine bodyPost_ret (by simp[results,Try.results31,go_sem,r3,r4];try rfl) rfl ?_
     have hb4:Below w.heap.size w w10:=R2.out.bel.trans (k10.below R2.out.bel.size (fun z hz=>by omega))
     have nr:∀z,(fun z=>z=w.heap.size) z→∃cs T,wo.heap[z]? =some (.cells cs T (0,0))∧T≠102∧T≠134:=fun z hz=>by
      subst hz
      exact⟨_,70,R2.out.res,by decide,by decide⟩
     have ROW:=own_kept R2.out.row k10 (fun z hz e=>by
      obtain⟨cs',h5⟩:=own_ty R2.out.row _ hz
      exact ty_ne h5 R2.out.res (by decide) e)
     have LRO:=own_kept R2.out.lro k10 (fun z hz e=>by
      obtain⟨cs',h5⟩:=own_ty R2.out.lro _ hz
      exact ty_ne h5 R2.out.res (by decide) e)
     have hS1:=HOK.out.sz.ge
     have hLl:=R2.out.len
     have hcap:S.length≤lc∧lc≤maxLen∧∃lb,la=some ⟨lb,0,none⟩:=by
      rcases LRO.2 with⟨e,h0⟩|⟨g',cap',cur,e,_,_,q1,q2,_⟩
      ·omega
      ·injection e with e1 e2 e3
       subst e3
       exact⟨by omega,q2,g',e1⟩
     obtain⟨hc1,hc2,lb,rfl⟩:=hcap
     refine⟨ra,rc,lb,lc,R,Ls,rfl,⟨?_,LaysAt.of_own LRO (by rw[hLl]) (fun x hx=>((R2.out.ly x hx).keptN k10 nr).mono k10.size),by rw[hLl];exact hc1,hc2,Nat.le_refl _⟩,RL.out,hLl,read_good HOK.out HRS.out (by rw[List.length_map];exact hLl) R2.out.ch RL.out RAT.out,⟨Q,R2.out.ch⟩,hb4⟩
     rcases ROW.2 with⟨e,h0⟩|⟨g',cap',cur,e,hgb,hgc,_⟩
     ·exact .inl (List.length_eq_zero_iff.1 h0)
     ·injection e with e1 e2 e3
      refine .inr ⟨g',0,⟨e1,rfl⟩,lt_of_block hgc,fun i hi=>?_⟩
      subst e1
      have RO2:=ROW
      rw[←RL.out] at RO2
      have:=World.ownsRow.cellAt RO2 i (by simp;exact hi)
      rw[Nat.zero_add,this]
      simp[iC,List.getElem?_eq_getElem hi]
end
def BdLow (x:BdA) (n n0:Nat):Prop:=x.b<n0∧x.sb<n0∧x.mb<n0∧∀i,i<n→x.mr i<n0
section
variable {w wr w':World} {B:Nat} {x:BdA} {S:List Int} {M:Int} {Ls:List LA} {N N1:List Nd} {V V1:Nat→List Int} {P P1 F:Nat→Prop} {n0:Nat}
theorem BdX.out (h:BdX wr B x S M Ls N1 V1 P1) (hl:BdLow x Ls.length n0) (hB:B≤n0) (hk:Kept F wr w') (hF:∀k,F k→n0≤k∧¬P1 k):BdX w' B x S M Ls N1 V1 P1:=
 h.kept hk (fun k hf=>by
  obtain⟨h1,h2⟩:=hF k hf
  obtain⟨l1,l2,l3,l4⟩:=hl
  exact⟨by omega,h2,by omega,by omega,by omega,fun i hi=>by have:=l4 i hi;omega⟩)
end
structure KdI (w wr:World) (B:Nat) (x:BdA) (S:List Int) (M:Int) (Ls:List LA) (N:List Nd) (P:Nat→Prop) (T:List Lay) (row:List Rn) (k:Nat) (v:Value) (ks:List Int) (N1:List Nd) (V1:Nat→List Int) (P1:Nat→Prop):Prop where
 bd:BdX wr B x S M Ls N1 V1 P1
 ow:wr.ownsRow w.heap.size 3 1 v ks.length (zC ks)
 nv:∀z,v.ownBlock=some z→¬P1 z
 kf:kidsF (ins (ledS S (ordL Ls)) M) N (upTo (ordL Ls) T row k)=(ks,0,N1)
 len:ks.length=k
 kp:Kept (BdF x Ls.length P) w wr
 pn:∀z,P1 z→P z∨w.heap.size≤z
structure KdJ (w wr:World) (B:Nat) (x:BdA) (S:List Int) (M:Int) (Ls:List LA) (P:Nat→Prop) (nb:Nat) (r:Rn) (v:Value) (ks:List Int) (N1:List Nd) (V1:Nat→List Int) (P1:Nat→Prop):Prop where
 bd:BdX wr B x S M Ls N1 V1 P1
 ow:wr.ownsRow w.heap.size 3 1 v ks.length (zC ks)
 nv:∀z,v.ownBlock=some z→¬P1 z
 rb:wr.heap[nb]? =some (.cells #[.int .i32 r.1,.int .i32 r.2] 134 (0,0))
 kp:Kept (BdF x Ls.length P) w wr
 pn:∀z,P1 z→P z∨w.heap.size≤z
def KdL (B:Nat) (x:BdA) (S:List Int) (M:Int) (Ls:List LA) (N:List Nd) (P:Nat→Prop) (T:List Lay) (row:List Rn) (s:Nat) (w:World) (e:Ending) (w':World):Prop:=
 ∃ao c,e=.returned (.tuple #[.slice ao (kidsF (ins (ledS S (ordL Ls)) M) N (upTo (ordL Ls) T row s)).1.length c,.int .i64 (kidsF (ins (ledS S (ordL Ls)) M) N (upTo (ordL Ls) T row s)).2.1])∧ZAt w' ao (kidsF (ins (ledS S (ordL Ls)) M) N (upTo (ordL Ls) T row s)).1∧∃V' P',BdX w' B x S M Ls (kidsF (ins (ledS S (ordL Ls)) M) N (upTo (ordL Ls) T row s)).2.2 V' P'∧Kept (BdF x Ls.length P) w w'∧∀k,P' k→P k∨w.heap.size≤k
section
variable {w wr w2 w3:World} {B:Nat} {x:BdA} {S:List Int} {M:Int} {Ls:List LA} {N N1:List Nd} {V V1:Nat→List Int} {P P1:Nat→Prop} {T:List Lay} {row:List Rn} {nb:Nat} {r:Rn} {v v3:Value} {ks:List Int}
theorem KdJ.step (hl:BdLow x Ls.length w.heap.size) (hB:B≤w.heap.size) (h:KdJ w wr B x S M Ls P nb r v ks N1 V1 P1) (x2:Below wr.heap.size wr w2) {f:Int} (o3:w3.ownsRow w.heap.size 3 1 v3 (ks.length+1) (zC ks++[.int .i64 f])) (g3:GrowAt w2 w3 v v3):KdJ w w3 B x S M Ls P nb r v3 (ks++[f]) N1 V1 P1:=by
 have bd2:=h.bd.below x2
 have ow2:=own_below h.ow x2
 have rb2:=(x2.block nb (lt_of_block h.rb)).trans h.rb
 have plt:∀z,P1 z→z<wr.heap.size:=fun z hz=>h.bd.ar.plt hz
 refine⟨bd2.out hl hB g3.1 (fun k hk=>⟨(World.ownsRow.lt ow2 k hk).1,h.nv k hk⟩),by rw[List.length_append,zC_snoc];exact o3,fun z hz hp=>?_,(g3.1.block nb (lt_of_block rb2) (fun hz=>?_)).trans rb2,?_,h.pn⟩
 ·rcases g3.2 z hz with h1|h1
  ·exact h.nv z h1 hp
  ·have:=plt z hp
   have:=x2.size
   omega
 ·obtain⟨cs',h5⟩:=own_ty ow2 _ hz
  exact ty_ne h5 rb2 (by decide) rfl
 ·have k2:=h.kp.trans (Kept.of_below x2)
  exact k2.trans_new g3.1 (fun z hz hv=>by have:=(World.ownsRow.lt ow2 z hv).1;omega)
end
end Go.Proofs.Ytnddhkhmbjeefaa

