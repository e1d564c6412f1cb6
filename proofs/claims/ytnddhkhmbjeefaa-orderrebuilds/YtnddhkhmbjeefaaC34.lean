/-
  The document's arena in memory; its Has, Level, Len by their contracts. No condition.
-/
import Derived.Test.YtnddhkhmbjeefaaC33
namespace Go.Proofs.Ytnddhkhmbjeefaa
open Go.RowKit Go.Lib Go.Maps
structure RAy (w:World) (x:Nat) (S:List Int) (M:Int) (R:List ND) (L:Nat→List Int) (P:Nat→Prop) (sb sc:Nat) (nv lv:Value) (LV:List Value):Prop where
 blk:w.heap[x]? =some (.cells #[.slice (some ⟨sb,0,none⟩) S.length sc,.int .i64 M,nv,lv] 65 (0,0))
 sz:ZBk w sb S
 row:FRow w 86 2 nv R.length (ndC R)
 kid:∀y∈R,ZBk w y.kb y.ks
 lrow:w.ownsRow 0 22 1 lv S.length LV
 lists:∀i,i<S.length→FRow w 3 1 (LV.getD i (.slice none 0 0)) (L i).length (zC (L i))
 apart:∀i j,i<S.length→j<S.length→i≠j→∀k,(LV.getD i (.slice none 0 0)).ownBlock=some k→¬(LV.getD j (.slice none 0 0)).ownBlock=some k
 fix:∀i,i<S.length→∀k,(LV.getD i (.slice none 0 0)).ownBlock=some k→k≠sb∧∀y∈R,k≠y.kb
 px:P x
 ps:P sb
 pn:∀k,nv.ownBlock=some k→P k
 pl:∀k,lv.ownBlock=some k→P k
 pi:∀i,i<S.length→∀k,(LV.getD i (.slice none 0 0)).ownBlock=some k→P k
 pk:∀y∈R,P y.kb
 plt:∀k,P k→k<w.heap.size
 ok:Ok S M (R.map ND.nd)
 m8:M≤8192
abbrev RAx (w:World) (x:Nat) (S:List Int) (M:Int) (R:List ND) (P:Nat→Prop) (sb sc:Nat) (nv lv:Value) (LV:List Value):Prop:=RAy w x S M R (fun i=>refs (R.map ND.nd) (i:Int)) P sb sc nv lv LV
def RA (w:World) (x:Nat) (S:List Int) (M:Int) (N:List Nd) (P:Nat→Prop):Prop:=∃R sb sc nv lv LV,RAx w x S M R P sb sc nv lv LV∧R.map ND.nd=N
section
variable {w w':World} {x:Nat} {S:List Int} {M:Int} {R:List ND} {N:List Nd} {P F:Nat→Prop} {sb sc:Nat} {nv lv:Value} {LV:List Value} {L:Nat→List Int}
theorem RAy.kept (h:RAy w x S M R L P sb sc nv lv LV) (hk:Kept F w w') (hF:∀k,P k→¬F k):RAy w' x S M R L P sb sc nv lv LV:=
 ⟨(hk.block x (h.plt x h.px) (hF x h.px)).trans h.blk,h.sz.kept hk (hF _ h.ps),h.row.kept hk (fun k hb=>hF k (h.pn k hb)),fun y hy=>(h.kid y hy).kept hk (hF _ (h.pk y hy)),own_kept h.lrow hk (fun k hb=>hF k (h.pl k hb)),fun i hi=>(h.lists i hi).kept hk (fun k hb=>hF k (h.pi i hi k hb)),h.apart,h.fix,h.px,h.ps,h.pn,h.pl,h.pi,h.pk,fun k hp=>Nat.lt_of_lt_of_le (h.plt k hp) hk.size,h.ok,h.m8⟩
theorem RAy.below (h:RAy w x S M R L P sb sc nv lv LV) (y:Below w.heap.size w w'):RAy w' x S M R L P sb sc nv lv LV:=h.kept (F:=fun _=>False) (Kept.of_below y) (fun _ _ h=>h)
theorem RA.kept (h:RA w x S M N P) (hk:Kept F w w') (hF:∀k,P k→¬F k):RA w' x S M N P:=by
 obtain⟨R,sb,sc,nv,lv,LV,h1,h2⟩:=h
 exact⟨R,sb,sc,nv,lv,LV,h1.kept hk hF,h2⟩
theorem RA.below (h:RA w x S M N P) (y:Below w.heap.size w w'):RA w' x S M N P:=h.kept (F:=fun _=>False) (Kept.of_below y) (fun _ _ h=>h)
theorem RA.ok (h:RA w x S M N P):Ok S M N:=by
 obtain⟨R,sb,sc,nv,lv,LV,h1,rfl⟩:=h
 exact h1.ok
theorem RA.m8 (h:RA w x S M N P):M≤8192:=by
 obtain⟨R,sb,sc,nv,lv,LV,h1,rfl⟩:=h
 exact h1.m8
theorem RA.plt (h:RA w x S M N P) {k:Nat} (hk:P k):k<w.heap.size:=by
 obtain⟨R,sb,sc,nv,lv,LV,h1,rfl⟩:=h
 exact h1.plt k hk
theorem RAy.ra (h:RAy w x S M R (fun i=>refs (R.map ND.nd) (i:Int)) P sb sc nv lv LV):RA w x S M (R.map ND.nd) P:=⟨R,sb,sc,nv,lv,LV,h,rfl⟩
theorem RAy.cells (h:RAy w x S M R L P sb sc nv lv LV):w.cell? ⟨x,0,none⟩=some (.slice (some ⟨sb,0,none⟩) S.length sc)∧w.cell? ⟨x,1,none⟩=some (.int .i64 M)∧w.cell? ⟨x,2,none⟩=some nv∧w.cell? ⟨x,3,none⟩=some lv:=by
 refine⟨?_,?_,?_,?_⟩<;>(rw[cell_of_row w x _ _ _ _ h.blk];rfl)
theorem RAy.few (h:RAy w x S M R L P sb sc nv lv LV):R.length≤8192:=by
 have h1:=h.ok.few
 have h2:=h.m8
 rw[List.length_map] at h1
 omega
theorem RAy.node (h:RAy w x S M R L P sb sc nv lv LV) {g cap n:Nat} (hv:nv=.slice (some ⟨g,0,none⟩) n cap) {i:Nat} (hi:i<R.length):w.cell? ⟨g,i*2,none⟩=some (.int .i64 (R[i]).lv)∧w.cell? ⟨g,i*2+1,none⟩=some (.slice (some ⟨(R[i]).kb,0,none⟩) (R[i]).ks.length (R[i]).kc):=by
 obtain⟨g1,g2⟩:=ndC_get R i hi
 exact⟨(h.row.cell hv (by omega)).trans g1,(h.row.cell hv (by omega)).trans g2⟩
theorem RAy.lcell (h:RAy w x S M R L P sb sc nv lv LV) {i:Nat} (hi:i<S.length):∃g c,lv=.slice (some ⟨g,0,none⟩) S.length c∧g<w.heap.size∧w.cell? ⟨g,i,none⟩=some (LV.getD i (.slice none 0 0))∧w.frozen? ⟨g,i,none⟩=false:=by
 obtain⟨ao,c,rfl,hp⟩:=own_shape h.lrow
 obtain⟨g,rfl⟩:=hp (by omega)
 have hl:=h.lrow.1
 refine⟨g,c,rfl,(World.ownsRow.lt h.lrow g rfl).2,?_,h.lrow.frozenAt _⟩
 rw[World.ownsRow.cellAt h.lrow i (by omega),List.getD_eq_getElem?_getD,List.getElem?_eq_getElem (by omega)]
 rfl
set_option maxRecDepth 100000 in
theorem hasD_any (f:Int) (h:RAx w x S M R P sb sc nv lv LV):Calls Try.prog 51 #[.pointer (some ⟨x,0,none⟩),.int .i64 f] w fun e w'=>e=.returned (.bool (hasN R.length f))∧w'=w:=by
 obtain⟨c0,c1,c2,c3⟩:=h.cells
 have hf:=h.few
 obtain⟨ao,cap,rfl,_⟩:=h.row.shape
 have e1:IntKind.i64.wrap ((R.length:Int)+2)=(R.length:Int)+2:=by simp[IntKind.wrap,IntKind.bits,IntKind.signed];omega
 clear h
 generalize R.length=n at *
 by_cases h0:0≤f
 ·by_cases h1:f<(n:Int)+2
  ·rw[show hasN n f=true by simp only[hasN,decide_eq_true h0,decide_eq_true h1,Bool.and_true]]
   go_enter Try.func51,Try.ntmps51
   go_wp2
   go_ret
   exact⟨rfl,rfl⟩
  ·rw[show hasN n f=false by simp only[hasN,decide_eq_false h1,Bool.and_false]]
   go_enter Try.func51,Try.ntmps51
   go_wp2
   go_ret
   exact⟨rfl,rfl⟩
 ·rw[show hasN n f=false by simp only[hasN,decide_eq_false h0,Bool.false_and]]
  go_enter Try.func51,Try.ntmps51
  go_wp2
  go_ret
  exact⟨rfl,rfl⟩
set_option maxRecDepth 100000 in
theorem levelD_any (f:Int) (h:RAx w x S M R P sb sc nv lv LV):Calls Try.prog 27 #[.pointer (some ⟨x,0,none⟩),.int .i64 f] w fun e w'=>e=.returned (.int .i64 (lvl S (R.map ND.nd) f))∧w'=w:=by
 obtain⟨c0,c1,c2,c3⟩:=h.cells
 have hfw:=h.few
 have e0:IntKind.i64.wrap ((R.length:Int)+2)=(R.length:Int)+2:=by simp[IntKind.wrap,IntKind.bits,IntKind.signed];omega
 by_cases hc:2≤f∧f<(R.length:Int)+2
 ·obtain⟨i,hi,rfl,e⟩:=lvl_node (S:=S) hc.1 hc.2
  rw[e]
  have hc1:¬(i:Int)+2<2:=by omega
  have hc2:¬(R.length:Int)+2≤(i:Int)+2:=by omega
  clear e hc
  obtain⟨ao,cap,hv,hp,_⟩:=h.row.shape
  obtain⟨g,rfl⟩:=hp (by omega)
  subst hv
  obtain⟨d0,d1⟩:=h.node rfl hi
  have e1:IntKind.i64.wrap ((i:Int)+2-2)=(i:Int):=by simp[IntKind.wrap,IntKind.bits,IntKind.signed];omega
  have hi':(i:Int)<(R.length:Int):=by omega
  clear h hp d1
  generalize (R[i]).lv=lv' at *
  generalize R.length=n at *
  go_enter Try.func27,Try.ntmps27
  go_wp2
  go_ret
  exact⟨rfl,rfl⟩
 ·rw[lvl_none hc]
  obtain⟨ao,cap,rfl,_⟩:=h.row.shape
  clear h
  generalize R.length=n at *
  by_cases h1:f<2
  ·go_enter Try.func27,Try.ntmps27
   go_wp2
   go_ret
   exact⟨rfl,rfl⟩
  ·have h2:(n:Int)+2≤f:=by omega
   clear hc
   go_enter Try.func27,Try.ntmps27
   go_wp2
   go_ret
   exact⟨rfl,rfl⟩
set_option maxRecDepth 100000 in
theorem lenD_any (h:RAx w x S M R P sb sc nv lv LV):Calls Try.prog 26 #[.pointer (some ⟨x,0,none⟩)] w fun e w'=>e=.returned (.int .i64 (R.length:Int))∧w'=w:=by
 obtain⟨c0,c1,c2,c3⟩:=h.cells
 obtain⟨ao,cap,rfl,_⟩:=h.row.shape
 clear h
 go_enter Try.func26,Try.ntmps26
 go_wp2
 go_ret
 exact⟨rfl,rfl⟩
end
theorem Kept.none_below {w w':World} (h:Kept (fun k=>(Value.slice none 0 0).ownBlock=some k) w w'):Below w.heap.size w w':=h.below (Nat.le_refl _) (fun k hk=>by cases hk)
section
variable {w w':World} {x:Nat} {S:List Int} {M:Int} {R:List ND} {N:List Nd} {P F:Nat→Prop} {sb sc:Nat} {nv lvv:Value} {LV:List Value}
set_option maxRecDepth 100000 in
set_option maxHeartbeats 4000000 in
theorem nodeD_any (f:Int) (h:RAx w x S M R P sb sc nv lvv LV):Calls Try.prog 69 #[.pointer (some ⟨x,0,none⟩),.int .i64 f] w fun e w'=>NdL (R.map ND.nd) f w e w':=by
 obtain⟨i3,hi3,hz30,hz31,hz32⟩:=info_parts Try.info3
 have y0:Below w.heap.size w (w.alloc (.cells #[.int .i64 0,.slice none 0 0] 86)):=al (Below.refl _ _) _
 have h0:=h.below y0
 have b0:=heap_alloc_new w (.cells #[.int .i64 0,.slice none 0 0] 86)
 have hfw:=h.few
 have e0:IntKind.i64.wrap ((R.length:Int)+2)=(R.length:Int)+2:=by simp[IntKind.wrap,IntKind.bits,IntKind.signed];omega
 obtain⟨c0,c1,c2,c3⟩:=h0.cells
 by_cases hc:2≤f∧f<(R.length:Int)+2
 ·obtain⟨i,hi,rfl,-⟩:=lvl_node (S:=S) hc.1 hc.2
  have hc1:¬(i:Int)+2<2:=by omega
  have hc2:¬(R.length:Int)+2≤(i:Int)+2:=by omega
  obtain⟨ao,cap,hv,hp,_⟩:=h.row.shape
  obtain⟨g,rfl⟩:=hp (by omega)
  subst hv
  obtain⟨d0,d1⟩:=h0.node rfl hi
  have hgl:g<w.heap.size:=h.row.lt rfl
  have e1:IntKind.i64.wrap ((i:Int)+2-2)=(i:Int):=by simp[IntKind.wrap,IntKind.bits,IntKind.signed];omega
  have e2:IntKind.i64.wrap (i:Int)=(i:Int):=by simp[IntKind.wrap,IntKind.bits,IntKind.signed];omega
  have e3:(0:Int)≤(i:Int):=by omega
  have hi':(i:Int)<(R.length:Int):=by omega
  have HND:Hid ((R.map ND.nd)[i]? =some ((R[i]).lv,(R[i]).ks)):=by unfold Hid;rw[List.getElem?_eq_getElem (by simpa using hi),List.getElem_map];rfl
  have hmi:=h.ok.may (i:=i) (by rw[List.length_map];exact hi)
  rw[List.getElem_map] at hmi
  obtain⟨-,-,hk1,hk2⟩:=hmi.rng h.ok (by rw[List.length_map];exact hfw)
  have hkz:=h0.kid (R[i]) (List.getElem_mem hi)
  have hxl:=h.plt x h.px
  simp only[ND.nd] at hk1 hk2
  clear h hp h0 hc hmi
  generalize (R[i]).lv=lv at *
  generalize (R[i]).ks=ks at *
  generalize (R[i]).kb=kb at *
  generalize (R[i]).kc=kc at *
  have HB0:=hide b0
  have HY0:=hide y0
  have HKZ:=hide hkz
  have HI:=hide hi
  have hws:w.heap.size<(w.alloc (.cells #[.int .i64 0,.slice none 0 0] 86)).heap.size:=by simp
  clear b0 y0 hkz hi
  go_enter Try.func69,Try.ntmps69
  go_upto_region 4 with fail
  have yd:=HY0.out.drew
  have HS0:Hid ((w.alloc (.cells #[.int .i64 0,.slice none 0 0] 86)).drew.cell? ⟨x,2,none⟩=some (.slice (some ⟨g,0,none⟩) R.length cap)∧(w.alloc (.cells #[.int .i64 0,.slice none 0 0] 86)).drew.cell? ⟨g,i*2,none⟩=some (.int .i64 lv)∧(w.alloc (.cells #[.int .i64 0,.slice none 0 0] 86)).drew.cell? ⟨g,i*2+1,none⟩=some (.slice (some ⟨kb,0,none⟩) ks.length kc)):=⟨c2,d0,d1⟩
  have B0d:Hid ((w.alloc (.cells #[.int .i64 0,.slice none 0 0] 86)).drew.heap[w.heap.size]? =_):=HB0.out
  have Zd:Hid (ZBk (w.alloc (.cells #[.int .i64 0,.slice none 0 0] 86)).drew kb ks):=HKZ.out
  have Yd:=hide yd
  have hwd:w.heap.size<(w.alloc (.cells #[.int .i64 0,.slice none 0 0] 86)).drew.heap.size:=hws
  clear c0 c1 c2 c3 d0 d1 yd HB0 HKZ HY0 hws
  refine wp_unt (S:=fun V=>V.cell? ⟨x,2,none⟩=some (.slice (some ⟨g,0,none⟩) R.length cap)∧V.cell? ⟨g,i*2,none⟩=some (.int .i64 lv)∧V.cell? ⟨g,i*2+1,none⟩=some (.slice (some ⟨kb,0,none⟩) ks.length kc)) 21 (by kernel_rfl) ?_
  generalize (w.alloc (.cells #[.int .i64 0,.slice none 0 0] 86)).drew=wd at *
  refine UntH.tk 0 rfl 20 HS0.out (fun w' ⟨q0,q1,q2⟩=>by go_simp;first|done|rfl) ?_
  refine UntH.tk 1 rfl 21 HS0.out (fun w' ⟨q0,q1,q2⟩=>by go_simp;first|done|rfl) ?_
  refine UntH.tk 2 rfl 22 HS0.out (fun w' ⟨q0,q1,q2⟩=>by go_simp;first|done|rfl) ?_
  refine UntH.tk 3 rfl 23 HS0.out (fun w' ⟨q0,q1,q2⟩=>by go_simp;first|done|rfl) ?_
  refine UntH.tk 4 rfl 24 HS0.out (fun w' ⟨q0,q1,q2⟩=>by go_simp;first|done|rfl) ?_
  refine UntH.tk 5 rfl 25 HS0.out (fun w' ⟨q0,q1,q2⟩=>by go_simp;first|done|rfl) ?_
  refine UntH.tk 6 rfl 26 HS0.out (fun w' ⟨q0,q1,q2⟩=>by go_simp;first|done|rfl) ?_
  refine UntH.tk 7 rfl 27 HS0.out (fun w' ⟨q0,q1,q2⟩=>by go_simp;first|done|rfl) ?_
  refine UntH.tk 8 rfl 28 HS0.out (fun w' ⟨q0,q1,q2⟩=>by go_simp;first|done|rfl) ?_
  refine UntH.tk 9 rfl 29 HS0.out (fun w' ⟨q0,q1,q2⟩=>by go_simp;first|done|rfl) ?_
  refine UntH.tk 10 rfl 30 HS0.out (fun w' ⟨q0,q1,q2⟩=>by go_simp;first|done|rfl) ?_
  refine UntH.tk 11 rfl 31 HS0.out (fun w' ⟨q0,q1,q2⟩=>by go_simp;first|done|rfl) ?_
  refine UntH.tk 12 rfl 32 HS0.out (fun w' ⟨q0,q1,q2⟩=>by go_simp;first|done|rfl) ?_
  refine UntH.tk 13 rfl 33 HS0.out (fun w' ⟨q0,q1,q2⟩=>by go_simp;first|done|rfl) ?_
  refine UntH.tk 14 rfl 34 HS0.out (fun w' ⟨q0,q1,q2⟩=>by go_simp;first|done|rfl) ?_
  refine UntH.tk 15 rfl 35 HS0.out (fun w' ⟨q0,q1,q2⟩=>by go_simp;first|done|rfl) ?_
  refine UntH.tk 16 rfl 36 HS0.out (fun w' ⟨q0,q1,q2⟩=>by go_simp;first|done|rfl) ?_
  refine UntH.tk 17 rfl 37 HS0.out (fun w' ⟨q0,q1,q2⟩=>by go_simp;first|done|rfl) ?_
  refine UntH.tk 18 rfl 38 HS0.out (fun w' ⟨q0,q1,q2⟩=>by go_simp;first|done|rfl) ?_
  try simp only[Act.put,List.setIfInBounds_toArray,List.set_cons_zero,List.set_cons_succ]
  have HL:Hid ((zC ks).length=ks.length*1):=by unfold Hid;rw[zC_length,Nat.mul_one]
  refine UntH.step (i:=19) (by kernel_rfl) rfl (fun K hK=>?_)
  refine step_append_frow (by rfl) (.tmp 29) (.tmp 38) 22 (by rfl) 3 i3 (.int .i64 0) 1 8 Try.underlying22 hi3 hz30 hz31 hz32 rfl (by decide) (.slice none 0 0) 0 [] (by rfl) (.inl (World.ownsRow_nil _ _ _ _)) ⟨kb,0,none⟩ ks.length kc (zC ks) (by rfl) HL.out Zd.out.at.cells (zC_one ks) (by omega) (by unfold maxLen;omega) (by omega) ?_
  intro g6 cg6 w6 h1 h2 h3
  have x6:=Kept.none_below h2
  rw[Nat.zero_add,List.nil_append] at h1
  have hg6:wd.heap.size≤g6:=by
   rcases h3 with h3|h3
   ·cases h3
   ·exact h3
  obtain⟨g7,c7,e7,-,z6⟩:=own_blk h1 (by omega)
  injection e7 with e7 _ e8
  injection e7 with e7;injection e7 with e7
  subst e7 e8
  have O6:Hid (w6.ownsRow w.heap.size 3 1 (.slice (some ⟨g6,0,none⟩) ks.length cg6) ks.length (zC ks)):=by
   refine⟨h1.1,?_⟩
   rcases h1.2 with⟨e,_⟩|⟨g',cap',cur,e,_,r⟩
   ·cases e
   ·have e':=e
    injection e with e1 _ _
    injection e1 with e1;injection e1 with e1
    subst e1
    exact .inr ⟨g6,cap',cur,e',Nat.le_trans Yd.out.size hg6,r⟩
  have Z6:=hide z6
  have L6:=hide (Nat.le_trans Yd.out.size hg6)
  have HL6:=hide hg6
  have Y6:=hide (bt Yd.out x6 (Nat.le_refl _))
  have B06:=hide ((x6.block _ (lt_of_block B0d.out)).trans B0d.out)
  have HBL:=hide (lt_of_block B0d.out)
  have hxd:x<wd.heap.size:=by omega
  have hgd:g<wd.heap.size:=by omega
  have HS6:Hid (w6.cell? ⟨x,2,none⟩=some (.slice (some ⟨g,0,none⟩) R.length cap)∧w6.cell? ⟨g,i*2,none⟩=some (.int .i64 lv)∧w6.cell? ⟨g,i*2+1,none⟩=some (.slice (some ⟨kb,0,none⟩) ks.length kc)):=⟨(x6.cell (p:=⟨x,2,none⟩) hxd).trans HS0.out.1,(x6.cell (p:=⟨g,i*2,none⟩) hgd).trans HS0.out.2.1,(x6.cell (p:=⟨g,i*2+1,none⟩) hgd).trans HS0.out.2.2⟩
  rw[Nat.zero_add]
  refine hK _ _ HS6.out ?_
  clear hK K h1 h2 h3 x6 hg6 z6 HL
  refine UntH.tk 20 rfl 40 HS6.out (fun w' ⟨q0,q1,q2⟩=>by go_simp;first|done|rfl) ?_
  have r0:w6.cell? ⟨w.heap.size,0,none⟩=some (.int .i64 0):=by rw[cell_of_row _ _ 0 _ _ _ B06.out];rfl
  have r1:w6.cell? ⟨w.heap.size,1,none⟩=some (.slice none 0 0):=by rw[cell_of_row _ _ 1 _ _ _ B06.out];rfl
  have f0:=frozen_of_row w6 w.heap.size 0 _ _ B06.out
  have f1:=frozen_of_row w6 w.heap.size 1 _ _ B06.out
  refine UntH.stepf (i:=21) (by kernel_rfl) rfl (by kernel_rfl) (fun K hK=>?_)
  go_simp
  refine hK _ _ ?_
  clear hK K r0 r1 f0 f1 HS0 HS6
  have b2:=block_setCell (block_setCell B06.out 0 (.int .i64 lv)) 1 (.slice (some ⟨g6,0,none⟩) ks.length cg6)
  have k2:Kept (fun k=>k=w.heap.size) w6 ((w6.setCell ⟨w.heap.size,0,none⟩ (.int .i64 lv)).setCell ⟨w.heap.size,1,none⟩ (.slice (some ⟨g6,0,none⟩) ks.length cg6)):=Kept.setCell (F:=fun k=>k=w.heap.size) (p:=⟨w.heap.size,1,none⟩) (Kept.setCell (F:=fun k=>k=w.heap.size) (p:=⟨w.heap.size,0,none⟩) (Kept.refl _ _) rfl _) rfl _
  have HB2:=hide b2
  have HK2:=hide k2
  have hng:¬g6=w.heap.size:=by have h1:=HL6.out;have h2:=HBL.out;omega
  have Y7:=hide (bl (bl Y6.out (Nat.le_refl _) 0 (.int .i64 lv)) (Nat.le_refl _) 1 (.slice (some ⟨g6,0,none⟩) ks.length cg6))
  clear b2 k2
  generalize (w6.setCell ⟨w.heap.size,0,none⟩ (.int .i64 lv)).setCell ⟨w.heap.size,1,none⟩ (.slice (some ⟨g6,0,none⟩) ks.length cg6)=w7 at *
  have O7:=hide (own_kept O6.out HK2.out (fun k hk e=>hng (by have:g6=k:=Option.some.inj hk;omega)))
  have Z7:=hide (Z6.out.kept HK2.out hng)
  refine UntH.stepf (i:=22) (by kernel_rfl) rfl (by kernel_rfl) (fun K hK=>?_)
  go_simp
  refine hK _ _ ?_
  clear hK K
  refine UntH.end (by kernel_rfl) ?_
  go_wp2
  have r3:w7.cell? ⟨w.heap.size,0,none⟩=some (.int .i64 lv):=by rw[cell_of_row w7 w.heap.size 0 _ _ _ HB2.out];rfl
  have r4:w7.cell? ⟨w.heap.size,1,none⟩=some (.slice (some ⟨g6,0,none⟩) ks.length cg6):=by rw[cell_of_row w7 w.heap.size 1 _ _ _ HB2.out];rfl
  refine bodyPost_ret (by simp[results,Try.results69,go_sem,r3,r4];try rfl) rfl ?_
  exact⟨.inl ⟨i,lv,ks,g6,cg6,HND.out,rfl,rfl,O7.out,Z7.out,L6.out⟩,Y7.out⟩
 ·have HC:Hid (¬(2≤f∧f<((R.map ND.nd).length:Int)+2)):=by unfold Hid;rw[List.length_map];exact hc
  obtain⟨ao,cap,rfl,_⟩:=h.row.shape
  have HY0:=hide y0
  have r0:(w.alloc (.cells #[.int .i64 0,.slice none 0 0] 86)).cell? ⟨w.heap.size,0,none⟩=some (.int .i64 0):=by rw[cell_of_row _ _ 0 _ _ _ b0];rfl
  have r1:(w.alloc (.cells #[.int .i64 0,.slice none 0 0] 86)).cell? ⟨w.heap.size,1,none⟩=some (.slice none 0 0):=by rw[cell_of_row _ _ 1 _ _ _ b0];rfl
  clear y0 h h0
  by_cases h1:f<2
  ·clear hc
   go_enter Try.func69,Try.ntmps69
   go_wp2
   refine bodyPost_ret (by simp[results,Try.results69,go_sem,r0,r1];try rfl) rfl ?_
   exact⟨.inr ⟨HC.out,rfl⟩,HY0.out⟩
  ·have h2:(R.length:Int)+2≤f:=by omega
   clear hc
   generalize R.length=n at *
   go_enter Try.func69,Try.ntmps69
   go_wp2
   refine bodyPost_ret (by simp[results,Try.results69,go_sem,r0,r1];try rfl) rfl ?_
   exact⟨.inr ⟨HC.out,rfl⟩,HY0.out⟩
end
section
variable {w w':World} {x:Nat} {S:List Int} {M:Int} {R:List ND} {P:Nat→Prop} {sb sc:Nat} {nv lv:Value} {LV:List Value} {L:Nat→List Int}
theorem blocks_ne {w:World} {i j:Nat} {cs cs':Array Value} {t t':TypeId} {f f':Nat×Nat} (h1:w.heap[i]? =some (.cells cs t f)) (h2:w.heap[j]? =some (.cells cs' t' f')) (h3:t≠t'):i≠j:=fun e=>by
 subst e
 rw[h1] at h2
 simp at h2
 exact h3 h2.2.1
theorem ZBk.ty {w:World} {b:Nat} {L:List Int} (h:ZBk w b L):∃cs,w.heap[b]? =some (.cells cs 3 (0,0)):=by
 obtain⟨cs,h1,_⟩:=h
 exact⟨cs,h1⟩
theorem RAy.setN (h:RAy w x S M R L P sb sc nv lv LV) {w2:World} {R':List ND} {nv':Value} (k2:Kept (fun k=>nv.ownBlock=some k) w w2) (hr:FRow w2 86 2 nv' R'.length (ndC R')) (hn:∀k,nv'.ownBlock=some k→nv.ownBlock=some k∨w.heap.size≤k)
 (hk:∀y∈R',y∈R∨(ZBk w y.kb y.ks∧¬P y.kb)) (ok':Ok S M (R'.map ND.nd)):
 RAy (w2.setCell ⟨x,2,none⟩ nv') x S M R' L (fun k=>P k∨nv'.ownBlock=some k∨∃y∈R',y.kb=k) sb sc nv' lv LV∧Kept P w (w2.setCell ⟨x,2,none⟩ nv'):=by
 have k3:Kept (fun k=>k=x) w2 (w2.setCell ⟨x,2,none⟩ nv'):=Kept.setCell (F:=fun k=>k=x) (p:=⟨x,2,none⟩) (Kept.refl _ _) rfl _
 have hnx:¬nv.ownBlock=some x:=fun hF=>by
  obtain⟨cs,h5⟩:=h.row.ty hF
  exact blocks_ne h.blk h5 (by decide) rfl
 have hb2:=(k2.block x (lt_of_block h.blk) hnx).trans h.blk
 have hb3:(w2.setCell ⟨x,2,none⟩ nv').heap[x]? =some (.cells #[.slice (some ⟨sb,0,none⟩) S.length sc,.int .i64 M,nv',lv] 65 (0,0)):=by
  have:=block_setCell hb2 2 nv'
  simpa using this
 have kk:Kept (fun k=>nv.ownBlock=some k∨k=x) w (w2.setCell ⟨x,2,none⟩ nv'):=(k2.mono (fun _ h=>.inl h)).trans (k3.mono (fun _ h=>.inr h))
 have nt:∀ {b:Nat} {cs:Array Value} {t:TypeId} {f:Nat×Nat},w.heap[b]? =some (.cells cs t f)→t≠86→t≠65→¬(nv.ownBlock=some b∨b=x):=fun hb h1 h2 hF=>by
  rcases hF with hF|hF
  ·obtain⟨cs,h5⟩:=h.row.ty hF
   exact blocks_ne hb h5 h1 rfl
  ·exact blocks_ne hb h.blk h2 hF
 have zk:∀ {b:Nat} {A:List Int},ZBk w b A→ZBk (w2.setCell ⟨x,2,none⟩ nv') b A:=fun hz=>by
  obtain⟨cs,h5⟩:=hz.ty
  exact hz.kept kk (nt h5 (by decide) (by decide))
 have hnx':¬nv'.ownBlock=some x:=fun hF=>by
  rcases hn x hF with h5|h5
  ·exact hnx h5
  ·have:=h.plt x h.px;omega
 have hr3:=hr.kept k3 (fun k hk e=>hnx' (by rw[←e];exact hk))
 have kid':∀y∈R',ZBk w y.kb y.ks:=fun y hy=>by
  rcases hk y hy with h5|h5
  ·exact h.kid y h5
  ·exact h5.1
 refine⟨⟨hb3,zk h.sz,hr3,fun y hy=>zk (kid' y hy),own_kept h.lrow kk (fun k hb=>?_),fun i hi=>(h.lists i hi).kept kk (fun k hb=>?_),h.apart,fun i hi k hb=>⟨(h.fix i hi k hb).1,fun y hy=>?_⟩,.inl h.px,.inl h.ps,fun k hb=>.inr (.inl hb),fun k hb=>.inl (h.pl k hb),fun i hi k hb=>.inl (h.pi i hi k hb),fun y hy=>.inr (.inr ⟨y,hy,rfl⟩),fun k hp=>?_,ok',h.m8⟩,kk.mono (fun k hb=>?_)⟩
 ·obtain⟨cs,h5⟩:=own_ty h.lrow k hb
  exact nt h5 (by decide) (by decide)
 ·obtain⟨cs,h5⟩:=(h.lists i hi).ty hb
  exact nt h5 (by decide) (by decide)
 ·rcases hk y hy with h5|h5
  ·exact(h.fix i hi k hb).2 y h5
  ·exact fun e=>h5.2 (by rw[←e];exact h.pi i hi k hb)
 ·rcases hp with hp|hp|⟨y,hy,rfl⟩
  ·exact Nat.lt_of_lt_of_le (h.plt k hp) kk.size
  ·exact hr3.lt hp
  ·exact Nat.lt_of_lt_of_le (kid' y hy).lt kk.size
 ·rcases hb with hb|hb
  ·exact h.pn k hb
  ·rw[hb];exact h.px
theorem RAy.setL (h:RAy w x S M R L P sb sc nv lv LV) {i g c:Nat} (hi:i<S.length) (hlv:lv=.slice (some ⟨g,0,none⟩) S.length c) {w2:World} {u':Value} {l':List Int} (k2:Kept (fun k=>(LV.getD i (.slice none 0 0)).ownBlock=some k) w w2) (hr:FRow w2 3 1 u' l'.length (zC l'))
 (hn:∀k,u'.ownBlock=some k→(LV.getD i (.slice none 0 0)).ownBlock=some k∨w.heap.size≤k):
 RAy (w2.setCell ⟨g,i,none⟩ u') x S M R (fun j=>if j=i then l' else L j) (fun k=>P k∨u'.ownBlock=some k) sb sc nv lv (LV.set i u')∧Kept P w (w2.setCell ⟨g,i,none⟩ u'):=by
 have hlr:=h.lrow
 have hll:=h.lrow.1
 rw[hlv] at hlr
 obtain⟨csg,hg⟩:=own_ty hlr g rfl
 have k3:Kept (fun k=>k=g) w2 (w2.setCell ⟨g,i,none⟩ u'):=Kept.setCell (F:=fun k=>k=g) (p:=⟨g,i,none⟩) (Kept.refl _ _) rfl _
 have kk:Kept (fun k=>(LV.getD i (.slice none 0 0)).ownBlock=some k∨k=g) w (w2.setCell ⟨g,i,none⟩ u'):=(k2.mono (fun _ h=>.inl h)).trans (k3.mono (fun _ h=>.inr h))
 have nt:∀ {b:Nat} {cs:Array Value} {t:TypeId} {f:Nat×Nat},w.heap[b]? =some (.cells cs t f)→t≠3→t≠22→¬((LV.getD i (.slice none 0 0)).ownBlock=some b∨b=g):=fun hb h1 h2 hF=>by
  rcases hF with hF|hF
  ·obtain⟨cs,h5⟩:=(h.lists i hi).ty hF
   exact blocks_ne hb h5 h1 rfl
  ·exact blocks_ne hb hg h2 hF
 have zk:∀ {b:Nat} {A:List Int},ZBk w b A→¬(LV.getD i (.slice none 0 0)).ownBlock=some b→ZBk (w2.setCell ⟨g,i,none⟩ u') b A:=fun hz hne=>by
  obtain⟨cs,h5⟩:=hz.ty
  refine hz.kept kk (fun hF=>?_)
  rcases hF with hF|hF
  ·exact hne hF
  ·exact blocks_ne h5 hg (by decide) hF
 have hug:¬(LV.getD i (.slice none 0 0)).ownBlock=some g:=fun hF=>by
  obtain⟨cs,h5⟩:=(h.lists i hi).ty hF
  exact blocks_ne h5 hg (by decide) rfl
 have hlr2:=own_kept hlr k2 (fun k hk hF=>by
  obtain rfl:g=k:=Option.some.inj hk
  exact hug hF)
 obtain⟨hlr3,_⟩:=hlr2.stored i u'
 have hu'g:¬u'.ownBlock=some g:=fun hF=>by
  rcases hn g hF with h5|h5
  ·exact hug h5
  ·have:=lt_of_block hg;omega
 have hr3:=hr.kept k3 (fun k hk e=>hu'g (by rw[←e];exact hk))
 have gs:∀j,j<S.length→j≠i→(LV.set i u').getD j (.slice none 0 0)=LV.getD j (.slice none 0 0):=fun j hj hne=>by
  simp only[List.getD_eq_getElem?_getD]
  rw[List.getElem?_set_ne (fun e=>hne e.symm)]
 have gi:(LV.set i u').getD i (.slice none 0 0)=u':=by
  simp only[List.getD_eq_getElem?_getD]
  rw[List.getElem?_set_self (by omega)]
  rfl
 have oth:∀j,j<S.length→j≠i→∀k,(LV.getD j (.slice none 0 0)).ownBlock=some k→¬u'.ownBlock=some k:=fun j hj hne k h1 h2=>by
  rcases hn k h2 with h5|h5
  ·exact h.apart i j hi hj (fun e=>hne e.symm) k h5 h1
  ·have:=h.plt k (h.pi j hj k h1);omega
 refine⟨⟨(kk.block x (lt_of_block h.blk) (nt h.blk (by decide) (by decide))).trans h.blk,zk h.sz (fun hF=>(h.fix i hi _ hF).1 rfl),h.row.kept kk (fun k hb=>?_),fun y hy=>zk (h.kid y hy) (fun hF=>(h.fix i hi _ hF).2 y hy rfl),by rw[hlv];exact hlr3,fun j hj=>?_,fun j1 j2 hj1 hj2 hne k h1 h2=>?_,fun j hj k hb=>?_,.inl h.px,.inl h.ps,fun k hb=>.inl (h.pn k hb),fun k hb=>.inl (h.pl k hb),fun j hj k hb=>?_,fun y hy=>.inl (h.pk y hy),fun k hp=>?_,h.ok,h.m8⟩,kk.mono (fun k hb=>?_)⟩
 ·obtain⟨cs,h5⟩:=h.row.ty hb
  exact nt h5 (by decide) (by decide)
 ·by_cases hji:j=i
  ·subst hji
   rw[gi]
   simp only[if_true]
   exact hr3
  ·rw[gs j hj hji]
   simp only[hji,if_false]
   refine(h.lists j hj).kept kk (fun k hb hF=>?_)
   rcases hF with hF|hF
   ·exact h.apart j i hj hi hji k hb hF
   ·obtain⟨cs,h5⟩:=(h.lists j hj).ty hb
    exact blocks_ne h5 hg (by decide) hF
 ·by_cases h3:j1=i
  ·subst h3
   rw[gi] at h1
   rw[gs j2 hj2 (fun e=>hne e.symm)] at h2
   exact oth j2 hj2 (fun e=>hne e.symm) k h2 h1
  ·rw[gs j1 hj1 h3] at h1
   by_cases h4:j2=i
   ·subst h4
    rw[gi] at h2
    exact oth j1 hj1 h3 k h1 h2
   ·rw[gs j2 hj2 h4] at h2
    exact h.apart j1 j2 hj1 hj2 hne k h1 h2
 ·by_cases h3:j=i
  ·subst h3
   rw[gi] at hb
   rcases hn k hb with h5|h5
   ·exact h.fix j hi k h5
   ·exact⟨fun e=>by have:=h.plt _ h.ps;omega,fun y hy e=>by have:=h.plt _ (h.pk y hy);omega⟩
  ·rw[gs j hj h3] at hb
   exact h.fix j hj k hb
 ·by_cases h3:j=i
  ·subst h3
   rw[gi] at hb
   exact .inr hb
  ·rw[gs j hj h3] at hb
   exact .inl (h.pi j hj k hb)
 ·rcases hp with hp|hp
  ·exact Nat.lt_of_lt_of_le (h.plt k hp) kk.size
  ·exact hr3.lt hp
 ·rcases hb with hb|hb
  ·exact h.pi i hi k hb
  ·rw[hb];exact h.pl g (by rw[hlv];rfl)
theorem RAy.congr (h:RAy w x S M R L P sb sc nv lv LV) {L':Nat→List Int} (e:∀i,i<S.length→L' i=L i):RAy w x S M R L' P sb sc nv lv LV:=
 ⟨h.blk,h.sz,h.row,h.kid,h.lrow,fun i hi=>by rw[e i hi];exact h.lists i hi,h.apart,h.fix,h.px,h.ps,h.pn,h.pl,h.pi,h.pk,h.plt,h.ok,h.m8⟩
end
end Go.Proofs.Ytnddhkhmbjeefaa

