/-
  The program's refs in memory: newRefs, place by their contracts. Condition: refs of an arena.
-/
import Derived.DeepKeys4
import Derived.Test.YtnddhkhmbjeefaaC06
import Derived.Test.YtnddhkhmbjeefaaC07
import Derived.Test.YtnddhkhmbjeefaaC17
import Derived.Test.YtnddhkhmbjeefaaC05
import Derived.Test.YtnddhkhmbjeefaaC08
namespace Go.Proofs.Ytnddhkhmbjeefaa
open Go.RowKit Go.Lib Go.Maps
theorem keyed3:Keyed Try.prog 3:=int_keyed Try.underlying3
theorem wfI (x:Int) (h0:0≤x) (h1:x≤4294967296):(Lit.int .i64 x).wf=true:=by simp[Lit.wf,IntKind.min,IntKind.max,IntKind.bits,IntKind.signed];omega
theorem wfJ (x:Int) (h0:0≤x) (h1:x≤1073741824):(Lit.int .i32 x).wf=true:=by simp[Lit.wf,IntKind.min,IntKind.max,IntKind.bits,IntKind.signed];omega
theorem keyI_is {f:Int} (h0:0≤f) (h1:f≤4294967296):keyOf Try.prog 3 (.int .i64 f)=some (.int .i64 f):=keyOf_int_mk Try.underlying3 (wfI f h0 h1)
def keyZ (f:Int):Lit:=.int .i64 f
theorem keyZ_key (f:Int):WideAt.IsKeyLit (keyZ f):=by unfold keyZ;trivial
structure RfX (w:World) (r:Nat) (Q:List Int) (P:Nat→Prop) (lv:Value) (mb:Nat):Prop where
 blk:w.heap[r]? =some (.cells #[lv,.map (some mb)] 101 (0,0))
 row:w.ownsRow 0 3 1 lv Q.length (zC Q)
 map:MpT 3 w mb Q.length (Q.map keyZ)
 pr:P r
 pl:∀k,lv.ownBlock=some k→P k
 pm:P mb
 plt:∀k,P k→k<w.heap.size
 nr:NoRun w P
 ok:∀f∈Q,0≤f∧f≤4294967296
def RfAt (w:World) (r:Nat) (Q:List Int) (P:Nat→Prop):Prop:=∃lv mb,RfX w r Q P lv mb
section
variable {w w':World} {r:Nat} {Q:List Int} {P F:Nat→Prop} {lv:Value} {mb:Nat}
theorem RfX.kept (h:RfX w r Q P lv mb) (hk:Kept F w w') (hF:∀k,P k→¬F k):RfX w' r Q P lv mb:=
 ⟨(hk.block r (h.plt r h.pr) (hF r h.pr)).trans h.blk,own_kept h.row hk (fun k hb=>hF k (h.pl k hb)),h.map.kept hk (hF _ h.pm),h.pr,h.pl,h.pm,fun k hp=>Nat.lt_of_lt_of_le (h.plt k hp) hk.size,fun k hp cs e=>h.nr k hp cs ((hk.block k (h.plt k hp) (hF k hp)).symm.trans e),h.ok⟩
theorem RfAt.kept (h:RfAt w r Q P) (hk:Kept F w w') (hF:∀k,P k→¬F k):RfAt w' r Q P:=by
 obtain⟨lv,mb,h1⟩:=h
 exact⟨lv,mb,h1.kept hk hF⟩
theorem RfX.below (h:RfX w r Q P lv mb) (x:Below w.heap.size w w'):RfX w' r Q P lv mb:=h.kept (F:=fun _=>False) (Kept.of_below x) (fun _ _ h=>h)
theorem RfAt.below (h:RfAt w r Q P) (x:Below w.heap.size w w'):RfAt w' r Q P:=h.kept (F:=fun _=>False) (Kept.of_below x) (fun _ _ h=>h)
theorem RfX.cells (h:RfX w r Q P lv mb):w.cell? ⟨r,0,none⟩=some lv∧w.cell? ⟨r,1,none⟩=some (.map (some mb)):=by
 refine⟨?_,?_⟩<;>(rw[cell_of_row w r _ _ _ _ h.blk];rfl)
def RfL (r:Nat) (Q:List Int) (P:Nat→Prop) (f:Int) (w:World) (e:Ending) (w':World):Prop:=
 ∃i:Nat,e=.returned (.int .i32 (i:Int))∧(plc Q f)[i]? =some f∧∃P',RfAt w' r (plc Q f) P'∧Kept P w w'∧∀k,P' k→P k∨w.heap.size≤k
theorem RfX.add (h:RfX w r Q P lv mb) {w1 w2 w3 w4:World} {f:Int} {lv':Value} (t1:w.mapTurned w1 mb) (h1:MpT 3 w1 mb (Q.length+1) (Q.map keyZ++[keyZ f])) (x2:Below w1.heap.size w1 w2) (hf:0≤f∧f≤4294967296) (h3:w3.ownsRow 0 3 1 lv' (Q.length+1) (zC Q++[.int .i64 f])) (g3:w2.grownBy w3 lv.ownBlock) (l3:∀k,lv'.ownBlock=some k→lv.ownBlock=some k∨w2.heap.size≤k) (e4:w4=w3.setCell ⟨r,0,none⟩ lv'):
 ∃P',RfAt w4 r (Q++[f]) P'∧Kept P w w4∧∀k,P' k→P k∨w.heap.size≤k:=by
 subst e4
 have k1:=mapTurned_kept t1
 obtain⟨es,cl,hmb⟩:=h.map.blk
 have b1:=(k1.block r (lt_of_block h.blk) (map_ne h.blk hmb)).trans h.blk
 have row1:=own_kept h.row k1 (fun k hk e=>by
  obtain⟨cs',h5⟩:=own_ty h.row _ hk
  exact map_ne h5 hmb e)
 have b2:=(x2.block r (lt_of_block b1)).trans b1
 have row2:=own_below row1 x2
 have map2:MpT 3 w2 mb (Q.length+1) (Q.map keyZ++[keyZ f]):=h1.congr (x2.block mb h1.lt)
 have k3:Kept (fun k=>lv.ownBlock=some k) w2 w3:=kept_of_grown g3
 obtain⟨es2,cl2,hmb2⟩:=map2.blk
 have b3:=(k3.block r (lt_of_block b2) (fun hk=>by
  obtain⟨cs',h5⟩:=own_ty row2 _ hk
  exact ty_ne h5 b2 (by decide) rfl)).trans b2
 have map3:=map2.kept k3 (fun hk=>by
  obtain⟨cs',h5⟩:=own_ty row2 _ hk
  exact map_ne h5 hmb2 rfl)
 have k4:Kept (fun k=>k=r) w3 (w3.setCell ⟨r,0,none⟩ lv'):=Kept.setCell (F:=fun k=>k=r) (p:=⟨r,0,none⟩) (Kept.refl _ _) rfl _
 have b4:(w3.setCell ⟨r,0,none⟩ lv').heap[r]? =some (.cells #[lv',.map (some mb)] 101 (0,0)):=by
  have:=block_setCell b3 0 lv'
  simpa using this
 obtain⟨es3,cl3,hmb3⟩:=map3.blk
 have row4:=own_kept h3 k4 (fun k hk e=>by
  obtain⟨cs',h5⟩:=own_ty h3 _ hk
  exact ty_ne h5 b3 (by decide) e)
 have map4:=map3.kept k4 (fun e=>map_ne b3 hmb3 e.symm)
 have kk:Kept P w (w3.setCell ⟨r,0,none⟩ lv'):=(((k1.mono (fun k e=>by rw[e];exact h.pm)).trans (Kept.of_below x2)).trans (k3.mono (fun k hk=>h.pl k hk))).trans (k4.mono (fun k e=>by rw[e];exact h.pr))
 have hs2:w.heap.size≤w2.heap.size:=Nat.le_trans k1.size x2.size
 refine⟨fun k=>k=r∨lv'.ownBlock=some k∨k=mb,⟨lv',mb,⟨b4,by rw[List.length_append,zC_snoc];exact row4,by rw[List.length_append,List.map_append];exact map4,.inl rfl,fun k hk=>.inr (.inl hk),.inr (.inr rfl),fun k hk=>?_,fun k hk cs e=>?_,fun g hg=>?_⟩⟩,kk,fun k hk=>?_⟩
 ·rcases hk with e|hk|e
  ·rw[e];exact lt_of_block b4
  ·exact(World.ownsRow.lt row4 k hk).2
  ·rw[e];exact map4.lt
 ·rcases hk with hk|hk|hk
  ·subst hk;exact ty_ne b4 e (by decide) rfl
  ·obtain⟨cs',h5⟩:=own_ty row4 _ hk
   exact ty_ne h5 e (by decide) rfl
  ·subst hk
   obtain⟨es4,cl4,hmb4⟩:=map4.blk
   exact map_ne e hmb4 rfl
 ·rcases List.mem_append.1 hg with hg|hg
  ·exact h.ok g hg
  ·rw[List.mem_singleton.1 hg];exact hf
 ·rcases hk with e|hk|e
  ·rw[e];exact .inl h.pr
  ·rcases l3 k hk with h5|h5
   ·exact .inl (h.pl k h5)
   ·exact .inr (Nat.le_trans hs2 h5)
  ·rw[e];exact .inl h.pm
set_option maxRecDepth 100000 in
set_option maxHeartbeats 4000000 in
theorem rplace_any (h:RfX w r Q P lv mb) {f:Int} (hf:0≤f∧f≤4294967296) (hl:Q.length<1073741824):
 Calls Try.prog 55 #[.pointer (some ⟨r,0,none⟩),.int .i64 f] w fun e w'=>RfL r Q P f w e w':=by
 obtain⟨c0,c1⟩:=h.cells
 obtain⟨la,lc,hlv,_⟩:=own_shape h.row
 subst hlv
 have HH:=hide h
 have HF:=hide hf
 have HKO:=hide (keyI_is hf.1 hf.2)
 obtain⟨D,hown,hh,ha⟩:=h.map
 have hz0:(zeroValue 21).run Try.prog w=.ok (.int .i32 0) w:=Try.zeroValue21 w
 obtain⟨i3,hi3,hz30,hz31,hz32⟩:=info_parts Try.info3
 clear h hf
 by_cases hin:f∈Q
 ·have hk:keyZ f∈Q.map keyZ:=List.mem_map.2 ⟨f,hin,rfl⟩
  have hhas:=(hh _).2 hk
  have HP:Hid (plc Q f=Q):=by unfold Hid plc;rw[if_pos hin]
  have HIT:Hid (∀c:Int,D.atKey (keyZ f) (.lit (.int .i32 0))=.lit (.int .i32 c)→∃i:Nat,c=(i:Int)∧Q[i]? =some f):=fun c hc=>by
   obtain⟨i,hi,e,rfl⟩:=MpT.hit ha hc hk
   rw[List.length_map] at hi
   rw[List.getElem_map] at e
   unfold keyZ at e
   injection e with _ e
   exact⟨i,rfl,by rw[List.getElem?_eq_getElem hi,e]⟩
  have HOWN:=hide hown
  clear hown hh ha hk hin
  unfold keyZ at hhas HIT
  go_enter Try.func55,Try.ntmps55
  go_wp2_with (at_lookup;refine wpList_lookup_own_ok_int _ rfl (.tmp 12) (.tmp 13) 99 rfl 3 21 .i32 keyed3 Try.underlying99 Try.underlying21 hz0 mb Q.length D rfl HOWN.out _ _ rfl HKO.out ?_;intro c hat _;rw[hhas];obtain⟨i,hci,hqi⟩:=HIT.out c hat;subst hci;have HQI:=hide hqi;clear hat hqi)
  go_ret
  exact⟨i,rfl,by rw[HP.out];exact HQI.out,P,by rw[HP.out];exact⟨_,mb,HH.out⟩,Kept.refl _ _,fun k hk=>.inl hk⟩
 ·have hk:keyZ f∉Q.map keyZ:=fun hm=>by
   obtain⟨x,hx,e⟩:=List.mem_map.1 hm
   unfold keyZ at e
   injection e with _ e
   subst e
   exact hin hx
  have hhas:Maps.has D (keyZ f)=false:=by
   cases e:Maps.has D (keyZ f)
   ·rfl
   ·exact absurd ((hh _).1 e) hk
  have HP:Hid (plc Q f=Q++[f]):=by unfold Hid plc;rw[if_neg hin]
  have HOWN:=hide hown
  have HHS:=hide hh
  have HAT:=hide ha
  have HKN:=hide hk
  have e1:IntKind.i32.wrap (Q.length:Int)=(Q.length:Int):=by simp[IntKind.wrap,IntKind.bits,IntKind.signed];omega
  have hwf:=wfJ (Q.length:Int) (by omega) (by omega)
  clear hown hh ha hk hin
  unfold keyZ at hhas
  go_enter Try.func55,Try.ntmps55
  go_upto_region 6 with(first
   |(at_lookup;refine wpList_lookup_own_ok_int _ rfl (.tmp 12) (.tmp 13) 99 rfl 3 21 .i32 keyed3 Try.underlying99 Try.underlying21 hz0 mb Q.length D rfl HOWN.out _ _ rfl HKO.out ?_;intro c hat _;rw[hhas];clear hat)
   |(at_mapUpdate;refine wpList_mapUpdate_in _ rfl (.tmp 28) (.tmp 29) (.tmp 30) 99 rfl 3 21 keyed3 Try.underlying99 _ mb Q.length D rfl HOWN.out (by unfold maxLen;omega) _ _ _ rfl rfl HKO.out _ [] (plainElem_int Try.underlying21 hwf) ?_;intro w1 t1 t2;have T1:=hide t1;have T2:=hide t2;clear t1 t2))
  obtain⟨es,cl,hmb⟩:=HH.out.map.blk
  have B1:Hid (w1.heap[r]? =some (.cells #[.slice la Q.length lc,.map (some mb)] 101 (0,0))):=((mapTurned_kept T2.out).block r (lt_of_block HH.out.blk) (map_ne HH.out.blk hmb)).trans HH.out.blk
  have ROW1:Hid (w1.ownsRow 0 3 1 (.slice la Q.length lc) Q.length (zC Q)):=own_kept HH.out.row (mapTurned_kept T2.out) (fun k hk e=>by
   obtain⟨cs',h5⟩:=own_ty HH.out.row _ hk
   exact map_ne h5 hmb e)
  have HPU:=hide (MpT.put (kt:=3) (keyZ_key f) HKN.out HOWN.out.isMap HHS.out HAT.out (by rw[List.length_map];exact T1.out))
  have d0:w1.cell? ⟨r,0,none⟩=some (.slice la Q.length lc):=by rw[cell_of_row w1 r _ _ _ _ B1.out];rfl
  clear hmb c0 c1
  have BQ:Hid (∀W:World,(w1.alloc (.cells #[.int .i64 f] 3)).grownBy W (Value.slice la Q.length lc).ownBlock→W.heap[r]? =some (.cells #[.slice la Q.length lc,.map (some mb)] 101 (0,0))):=fun W g=>((kept_of_grown g).block r (by have:=lt_of_block B1.out;simp;omega) (fun hz=>by
   obtain⟨cs',h5⟩:=own_ty (own_below ROW1.out (al (Below.refl _ _) (.cells #[.int .i64 f] 3))) _ hz
   exact ty_ne h5 (((al (Below.refl _ w1) (.cells #[.int .i64 f] 3)).block r (lt_of_block B1.out)).trans B1.out) (by decide) rfl)).trans (((al (Below.refl _ w1) (.cells #[.int .i64 f] 3)).block r (lt_of_block B1.out)).trans B1.out)
  go_wp2_with (at_builtin;refine wpList_append_lies _ rfl (.tmp 35) (.tmp 37) 22 rfl 0 3 i3 (.int .i64 0) 1 8 Try.underlying22 hi3 hz30 hz31 hz32 rfl (by decide) _ Q.length (zC Q) rfl (own_below ROW1.out (al (Below.refl _ _) _)) ⟨w1.heap.size,0,none⟩ 1 1 [.int .i64 f] rfl rfl (one_new w1 _ _) (by simp[Value.oneCell']) (by decide) (by unfold maxLen;omega) (by omega) (Nat.zero_le _) _ rfl ?_;intro g8 cap8 w8 h1 h2 h3 h4;have O8:=hide h1;have G8:=hide h2;have L8:=hide h3;have B8:=BQ.out w8 h2;have q8:w8.cell? ⟨r,0,none⟩=some (.slice la Q.length lc):=(by rw[cell_of_row w8 r _ _ _ _ B8];rfl);have f8:=frozen_of_row w8 r 0 _ _ B8;clear h1 h2 h3 h4 B8)
  go_ret
  obtain⟨P',p1,p2,p3⟩:=HH.out.add T2.out HPU.out (al (Below.refl _ w1) (.cells #[.int .i64 f] 3)) HF.out O8.out G8.out (fun k hk=>by
   have e:g8=k:=Option.some.inj hk
   subst e
   rcases L8.out with h3|h3
   ·exact .inl h3
   ·exact .inr (by omega)) (w4:=w8.setCell ⟨r,0,none⟩ (.slice (some ⟨g8,0,none⟩) (Q.length+1) cap8)) rfl
  refine⟨Q.length,rfl,by rw[HP.out,List.getElem?_append_right (Nat.le_refl _)];simp,P',by rw[HP.out];exact p1,p2,p3⟩
theorem RfAt.place (h:RfAt w r Q P) {f:Int} (hf:0≤f∧f≤4294967296) (hl:Q.length<1073741824):
 Calls Try.prog 55 #[.pointer (some ⟨r,0,none⟩),.int .i64 f] w fun e w'=>RfL r Q P f w e w':=by
 obtain⟨lv,mb,h1⟩:=h
 exact rplace_any h1 hf hl
set_option maxRecDepth 100000 in
set_option maxHeartbeats 2000000 in
theorem newRefs_any (w:World):Calls Try.prog 54 #[] w fun e w'=>∃r,e=.returned (.pointer (some ⟨r,0,none⟩))∧∃P,RfAt w' r [0,1] P∧(∀k,P k→w.heap.size≤k)∧Below w.heap.size w w':=by
 have hmm:∀W:World,(Instr.makeMap 99 none).run Try.prog W=.ok (.map (some W.heap.size)) (W.alloc (.map #[] 0)):=fun W=>rfl
 have y1:Below w.heap.size w (w.alloc (.cells #[.int .i64 0,.int .i64 1] 3)):=al (Below.refl _ _) _
 have hs1:(w.alloc (.cells #[.int .i64 0,.int .i64 1] 3)).heap.size=w.heap.size+1:=by simp
 have mp0:=MpT.made 3 (w.alloc (.cells #[.int .i64 0,.int .i64 1] 3))
 rw[hs1] at mp0
 have O1:Hid ((w.alloc (.cells #[.int .i64 0,.int .i64 1] 3)).ownsRow w.heap.size 3 1 (.slice (some ⟨w.heap.size,0,none⟩) 2 2) 2 (zC [0,1])):=⟨rfl,.inr ⟨w.heap.size,2,_,rfl,Nat.le_refl _,heap_alloc_new w _,by decide,by decide,rfl,rfl⟩⟩
 have Y2:Hid (Below w.heap.size w ((w.alloc (.cells #[.int .i64 0,.int .i64 1] 3)).alloc (.map #[] 0))):=al y1 _
 have O2:Hid (((w.alloc (.cells #[.int .i64 0,.int .i64 1] 3)).alloc (.map #[] 0)).ownsRow w.heap.size 3 1 (.slice (some ⟨w.heap.size,0,none⟩) 2 2) 2 (zC [0,1])):=own_below O1.out (al (Below.refl _ _) _)
 obtain⟨D,hown,hh,ha⟩:=mp0
 have HOWN:=hide hown
 have HH:=hide hh
 have HA:=hide ha
 have HK0:=hide (keyI_is (f:=0) (by decide) (by decide))
 have HK1:=hide (keyI_is (f:=1) (by decide) (by decide))
 obtain⟨w3,hrun0,r01,r02⟩:=hown.store keyed3 Try.underlying99 (by unfold maxLen;omega) (keyI_is (f:=0) (by decide) (by decide)) (plainElem_int Try.underlying21 (wfJ 0 (by decide) (by decide)))
 have M3:=hide (MpT.put (kt:=3) (keyZ_key 0) (by simp) hown.isMap hh ha r01)
 obtain⟨D3,hown3,hh3,ha3⟩:=M3.out
 obtain⟨w4,hrun1,r11,r12⟩:=r01.store keyed3 Try.underlying99 (by unfold maxLen;omega) (keyI_is (f:=1) (by decide) (by decide)) (plainElem_int Try.underlying21 (wfJ 1 (by decide) (by decide)))
 have M4:Hid (MpT 3 w4 (w.heap.size+1) 2 ([0,1].map keyZ)):=by
  have h1:∀kl,Maps.has (D.put (keyZ 0) (.lit (.int .i32 0))) kl=true↔kl∈([keyZ 0]:List Lit):=fun kl=>by
   by_cases e:kl=keyZ 0
   ·subst e
    rw[Maps.has_put_same hown.isMap (keyZ_key 0)]
    simp
   ·rw[Maps.has_put_other e,hh kl]
    simp[e]
  have h2:∀i (h:i<([keyZ 0]:List Lit).length),(D.put (keyZ 0) (.lit (.int .i32 0))).atKey ([keyZ 0]:List Lit)[i] (.lit (.int .i32 0))=.lit (.int .i32 (i:Int)):=fun i hi=>by
   have:i=0:=by simpa using hi
   subst this
   exact Maps.atKey_put_same hown.isMap (keyZ_key 0) _ _
  exact MpT.put (kt:=3) (keyZ_key 1) (by simp[keyZ]) r01.isMap h1 h2 r11
 have K4:Hid (Kept (fun k=>k=w.heap.size+1) ((w.alloc (.cells #[.int .i64 0,.int .i64 1] 3)).alloc (.map #[] 0)) w4):=(mapTurned_kept r02).trans (mapTurned_kept r12)
 clear hown hh ha y1 r01 r02 r11 r12 hown3 hh3 ha3 M3 HOWN HH HA HK0 HK1
 have Y5:Hid (Below w4.heap.size w4 (w4.alloc (.cells #[.slice (some ⟨w.heap.size,0,none⟩) 2 2,.map (some (w.heap.size+1))] 101))):=al (Below.refl _ _) _
 have B5:Hid ((w4.alloc (.cells #[.slice (some ⟨w.heap.size,0,none⟩) 2 2,.map (some (w.heap.size+1))] 101)).heap[w4.heap.size]? =some (.cells #[.slice (some ⟨w.heap.size,0,none⟩) 2 2,.map (some (w.heap.size+1))] 101 (0,0))):=heap_alloc_new w4 _
 go_enter Try.func54,Try.ntmps54
 go_wp2
 go_ret
 have hs4:w.heap.size≤w4.heap.size:=Nat.le_trans Y2.out.size K4.out.size
 have O4:=own_kept O2.out K4.out (fun k hk e=>by
  have e2:w.heap.size=k:=Option.some.inj hk
  omega)
 have bel:Below w.heap.size w w4:=Y2.out.trans (K4.out.below Y2.out.size (fun k hk=>by omega))
 have M5:=M4.out.congr (Y5.out.block _ M4.out.lt)
 have O5:=own_below O4 Y5.out
 refine⟨w4.heap.size,rfl,fun k=>k=w4.heap.size∨k=w.heap.size∨k=w.heap.size+1,⟨_,_,⟨B5.out,own_mono O5 (Nat.zero_le _),M5,.inl rfl,fun k hk=>.inr (.inl (Option.some.inj hk).symm),.inr (.inr rfl),fun k hk=>?_,fun k hk cs e=>?_,fun f hf=>?_⟩⟩,fun k hk=>?_,bt bel Y5.out (Nat.le_refl _)⟩
 ·rcases hk with e|e|e
  ·rw[e];exact lt_of_block B5.out
  ·rw[e];exact(World.ownsRow.lt O5 w.heap.size rfl).2
  ·rw[e];exact M5.lt
 ·rcases hk with hk|hk|hk
  ·subst hk;exact ty_ne B5.out e (by decide) rfl
  ·subst hk
   obtain⟨cs',h5⟩:=own_ty O5 w.heap.size rfl
   exact ty_ne h5 e (by decide) rfl
  ·subst hk
   obtain⟨es,cl,h5⟩:=M5.blk
   exact map_ne e h5 rfl
 ·simp at hf
  rcases hf with rfl|rfl<;>exact⟨by decide,by decide⟩
 ·omega
end
def kidsN (S:List Int) (N:List Nd) (l:Nat) (f:Int):List Int:=if lvl S N f=(l:Int) then(N.getD (f-2).toNat (0,[])).2 else [f]
def adds (Q ks:List Int):List Int:=ks.foldl plc Q
theorem adds_snoc (Q ks:List Int) (x:Int):adds Q (ks++[x])=plc (adds Q ks) x:=by unfold adds;rw[List.foldl_append];rfl
theorem adds_ext:∀(ks Q:List Int),∃U,adds Q ks=Q++U∧U.length≤ks.length∧∀y∈U,y∈ks
 |[],Q=>⟨[],by simp[adds],Nat.le_refl _,by simp⟩
 |x::ks,Q=>by
  obtain⟨U,h1,h2,h3⟩:=adds_ext ks (plc Q x)
  unfold adds at h1 ⊢
  rw[List.foldl_cons,h1]
  unfold plc
  split
  ·exact⟨U,rfl,by simp;omega,fun y hy=>List.mem_cons_of_mem _ (h3 y hy)⟩
  ·refine⟨x::U,by simp,by simp;omega,fun y hy=>?_⟩
   rcases List.mem_cons.1 hy with rfl|hy
   ·exact List.mem_cons_self
   ·exact List.mem_cons_of_mem _ (h3 y hy)
theorem adds_take {ks Q:List Int} {k:Nat} (h:k<ks.length):adds Q (ks.take (k+1))=plc (adds Q (ks.take k)) ks[k]:=by
 rw[←adds_snoc]
 congr 1
 rw[List.take_succ_eq_append_getElem h]
def RrL (S:List Int) (N:List Nd) (l s:Nat) (f:Int) (r:Nat) (Q:List Int) (P:Nat→Prop) (w:World) (en:Ending) (w':World):Prop:=
 ∃(h:Nat→Int) (g c:Nat) (P':Nat→Prop),en=.returned (.slice (some ⟨g,0,none⟩) (rlN h s).length c)∧RwB w' g (rlN h s)∧w.heap.size≤g∧(rlN h s).length≤c∧c≤maxLen∧RfAt w' r (adds Q (kidsN S N l f)) P'∧Kept P w w'∧(∀k,P' k→P k∨w.heap.size≤k)∧∀j,j<s→0≤h j∧(adds Q (kidsN S N l f))[(h j).toNat]? =some (kidR S N l f j)
section
variable {w:World} {a:Nat} {S:List Int} {M:Int} {N:List Nd} {m:Nat} {P PA:Nat→Prop} {r l s:Nat} {Q:List Int} {f:Int}
set_option maxRecDepth 100000 in
set_option maxHeartbeats 4000000 in
theorem readRow_self (hA:CA w a S M N m PA) (hq:RfAt w r Q P) (hf:0≤f∧f≤4294967296) (hl:Q.length<100000) (hs0:0<s) (hs1:s≤256) (hne:lvl S N f≠(l:Int)):
 Calls Try.prog 56 #[.pointer (some ⟨a,0,none⟩),.int .i64 f,.int .i64 (l:Int),.int .i64 (s:Int),.pointer (some ⟨r,0,none⟩)] w fun e w'=>RrL S N l s f r Q P w e w':=by
 have HL:=hide (hA.level f)
 have HP:=hide (hq.place hf (by omega))
 have HK:Hid (kidsN S N l f=[f]∧∀c,kidR S N l f c=f):=⟨by unfold kidsN;rw[if_neg hne],fun c=>kidR_self hne⟩
 have HS:=hide (And.intro hs0 hs1)
 have e1:IntKind.i32.wrap (s:Int)=(s:Int):=by simp[IntKind.wrap,IntKind.bits,IntKind.signed];omega
 clear hA hq hf hl hs0 hs1
 generalize lvl S N f=lf at *
 go_enter Try.func56,Try.ntmps56
 go_wp2_with (first|(go_at_call 24;refine HL.out.mono ?_;rintro en w1 ⟨rfl,hw1⟩;subst hw1)|(go_at_call 55;refine HP.out.mono ?_;rintro en w2 ⟨i,rfl,hi,P',hr,hk,hn⟩;have HI:=hide hi;have HR:=hide hr;have HKP:=hide hk;have HN:=hide hn;clear hi hr hk hn))
 go_ret
 have x3:Below w2.heap.size w2 (w2.alloc (.cells #[.int .i32 (s:Int),.int .i32 (i:Int)] 134)):=al (Below.refl _ _) _
 have b3:=heap_alloc_new w2 (.cells #[.int .i32 (s:Int),.int .i32 (i:Int)] 134)
 have er:rlN (fun _=>(i:Int)) s=[((s:Int),(i:Int))]:=rlN_const (f:=fun _=>(i:Int)) (fun _ _=>rfl) HS.out.1
 have rb:RwB (w2.alloc (.cells #[.int .i32 (s:Int),.int .i32 (i:Int)] 134)) w2.heap.size [((s:Int),(i:Int))]:=⟨_,b3,fun j hj=>by
  have:j=0:=by simpa using hj
  subst this
  exact⟨rfl,rfl⟩⟩
 refine⟨fun _=>(i:Int),w2.heap.size,1,P',by rw[er];rfl,by rw[er];exact rb,HKP.out.size,by rw[er];exact Nat.le_refl _,by unfold maxLen;omega,?_,HKP.out.trans (Kept.of_below x3),HN.out,fun j hj=>?_⟩
 ·rw[HK.out.1]
  exact HR.out.below x3
 ·refine⟨Int.natCast_nonneg i,?_⟩
  rw[HK.out.1,HK.out.2]
  exact HI.out
structure RrI (ks:List Int) (r:Nat) (Q:List Int) (P:Nat→Prop) (w1 wr:World) (n k:Nat) (v:Value) (h:Nat→Int) (P':Nat→Prop):Prop where
 ow:wr.ownsRow n 134 2 v (rlN h k).length (rnC (rlN h k))
 rf:RfAt wr r (adds Q (ks.take k)) P'
 kp:Kept P w1 wr
 pn:∀z,P' z→P z∨w1.heap.size≤z
 vn:∀z,v.ownBlock=some z→w1.heap.size≤z
 at_:∀j (hj:j<ks.length),j<k→0≤h j∧(adds Q (ks.take k))[(h j).toNat]? =some ks[j]
set_option maxRecDepth 100000 in
set_option maxHeartbeats 4000000 in
theorem readRow_node (hA:CA w a S M N m PA) (hq:RfAt w r Q P) (hf:hasR N f) (hl:Q.length<100000) (hls:l<S.length) (hs:(s:Int)=S.getD l 0) (he:lvl S N f=(l:Int)):
 Calls Try.prog 56 #[.pointer (some ⟨a,0,none⟩),.int .i64 f,.int .i64 (l:Int),.int .i64 (s:Int),.pointer (some ⟨r,0,none⟩)] w fun e w'=>RrL S N l s f r Q P w e w':=by
 have HL:=hide (hA.level f)
 have HNC:=hide (hA.node f)
 obtain⟨R,sb,sc,nv,mb,hx,hN⟩:=hA
 have ok:=hx.ok
 rw[hN] at ok
 obtain⟨hf2,ks,hnd⟩:=ok.node_of_lvl hf he hls
 have hkl:ks.length=s:=by have:=hnd.len;omega
 have hsz:=ok.sz.each (S.getD l 0) (by rw[List.getD_eq_getElem?_getD,List.getElem?_eq_getElem hls];exact List.getElem_mem _)
 have hs0:0<s:=by omega
 have hs1:s≤256:=by omega
 have HKB:Hid (∀j (h:j<ks.length),0≤ks[j]∧ks[j]≤4294967296):=fun j hj=>by
  obtain⟨k1,k2,_⟩:=hnd.kid j hj
  rw[List.getD_eq_getElem?_getD,List.getElem?_eq_getElem hj] at k1 k2
  simp only[Option.getD_some] at k1 k2
  have:=hf.2
  have:=ok.few
  have:=hx.m8
  exact⟨k1,by omega⟩
 have HK:Hid (kidsN S N l f=ks∧∀j (h:j<ks.length),kidR S N l f j=ks[j]):=⟨by
  unfold kidsN
  rw[if_pos he,List.getD_eq_getElem?_getD,hnd.at_]
  rfl,fun j hj=>by rw[kidR_node hnd,List.getD_eq_getElem?_getD,List.getElem?_eq_getElem hj];rfl⟩
 have HAT:=hide hnd.at_
 have HHAS:=hide (And.intro hf2 hf.2)
 have HQ:=hide hq
 have HQL:=hide hl
 clear hx hN ok hnd hsz hq hf hl hls hs hf2
 subst hkl
 generalize hlf:lvl S N f=lf at *
 subst he
 have HLF:=hide hlf
 clear hlf
 go_enter Try.func56,Try.ntmps56
 go_upto_region 4 with(first|(go_at_call 24;refine HL.out.mono ?_;rintro en w1 ⟨rfl,hw1⟩;subst hw1)|(go_at_call 45;refine HNC.out.mono ?_;rintro en w2 ⟨hor,hb2⟩;obtain⟨g,cg,rfl,hg1,hg2⟩:∃g cg,en=.returned (.tuple #[.agg #[.int .i64 (l:Int),.slice (some ⟨g,0,none⟩) ks.length cg],.int .i64 0])∧ZBk w2 g ks∧w1.heap.size≤g:=(by rcases hor with⟨i,lv,ks',g,c,h1,h2,h3,h4,h5,h6⟩|⟨h1,_⟩;(have e:(f-2).toNat=i:=(by omega);have h7:=HAT.out;rw[e,h1] at h7;obtain⟨rfl,rfl⟩:=Prod.mk.inj (Option.some.inj h7);exact⟨g,c,h3,h5,h6⟩);(exact absurd HHAS.out h1));have HG:=hide (And.intro hg1 hg2);have HB2:=hide hb2;clear hor hg1 hg2 hb2))
 have X3:Hid (Below w2.heap.size w2 (w2.alloc (.cells #[.int .i64 (l:Int),.slice (some ⟨g,0,none⟩) ks.length cg] 86))):=al (Below.refl _ _) _
 have c1:(w2.alloc (.cells #[.int .i64 (l:Int),.slice (some ⟨g,0,none⟩) ks.length cg] 86)).cell? ⟨w2.heap.size,1,none⟩=some (.slice (some ⟨g,0,none⟩) ks.length cg):=by rw[cell_of_row _ _ _ _ _ _ (heap_alloc_new w2 _)];rfl
 have Z3:=hide (HG.out.1.below X3.out)
 have B3:=hide (bt HB2.out X3.out (Nat.le_refl _))
 have GL:Hid (w1.heap.size≤g∧g<w2.heap.size):=⟨HG.out.2,HG.out.1.lt⟩
 have SZ:=hide X3.out.size
 clear X3 HB2 HG HL HNC
 generalize w2.alloc (.cells #[.int .i64 (l:Int),.slice (some ⟨g,0,none⟩) ks.length cg] 86)=w3 at *
 generalize w2.heap.size=nb at *
 have GLT:=hide Z3.out.lt
 have ST:Hid (RrI ks r Q P w3 w3 w1.heap.size 0 (.slice none 0 0) (fun _=>0) P):=⟨World.ownsRow_nil _ _ _ _,by simpa [adds] using HQ.out.below B3.out,Kept.refl _ _,fun z hz=>.inl hz,fun z hz=>(by cases hz),fun j hj hk=>(by omega)⟩
 go_wp2
 go_loopw [13,37] (fun v13 v37 wr=>∃k:Nat,k≤ks.length∧v37=.int .i64 (k:Int)∧∃ca cn cc,v13=.slice ca cn cc∧∃h P',Hid (RrI ks r Q P w3 wr w1.heap.size k (.slice ca cn cc) h P')) (fun _ v _=>ks.length-(RowKit.intOf v).toNat)
 case atStart=>exact⟨0,Nat.zero_le _,rfl,none,0,0,rfl,_,P,ST⟩
 case round=>
  obtain⟨k,hk,rfl,ca,cn,cc,rfl,h,P',RI⟩:=hrel
  clear ST c1
  by_cases hlk:k<ks.length
  ·have hlk':(k:Int)<(ks.length:Int):=by omega
   have NPG:Hid (¬P g):=fun hp=>by
    obtain⟨_,_,hX⟩:=HQ.out
    have:=hX.plt g hp
    have:=GL.out.1
    omega
   have q1:=(Z3.out.kept RI.out.kp NPG.out).cell hlk
   rw[show ks.getD k 0=ks[k] by rw[List.getD_eq_getElem?_getD,List.getElem?_eq_getElem hlk];rfl] at q1
   have e1:IntKind.i32.wrap (IntKind.i64.wrap ((k:Int)+1))=((k:Int)+1):=by simp[IntKind.wrap,IntKind.bits,IntKind.signed];omega
   have hU:(adds Q (ks.take k)).length<1073741824:=by
    obtain⟨U,h1,h2,_⟩:=adds_ext (ks.take k) Q
    have:=HQL.out
    rw[h1,List.length_append]
    rw[List.length_take] at h2
    omega
   have HPL:=hide (RI.out.rf.place (HKB.out k hlk) hU)
   clear hU
   have HRL:Hid ((rlN h k).length≤65536):=by have:=rlN_len h k;unfold Hid;omega
   have SW:=hide (Nat.le_trans B3.out.size RI.out.kp.size)
   go_wp2_with (first|(go_at_call 55;go_loud (refine HPL.out.mono ?_;rintro en w4 ⟨i,rfl,hi,P4,hr4,hk4,hn4⟩;have HI:=hide hi;have HR4:=hide hr4;have HK4:=hide hk4;have HN4:=hide hn4;have NV:Hid (∀z,(Value.slice ca cn cc).ownBlock=some z→¬P' z):=(fun z hz hp=>(by obtain⟨cs',h5⟩:=own_ty RI.out.ow _ hz;obtain⟨_,_,hX⟩:=RI.out.rf;exact hX.nr z hp _ h5));have OW4:=hide (own_kept RI.out.ow hk4 NV.out);have S4:=hide (Nat.le_trans SW.out hk4.size);clear hi hr4 hk4 hn4))|(go_at_call 73;go_loud (refine(join_any ((k:Int)+1) (i:Int) OW4.out HRL.out S4.out).mono ?_;rintro en w5 ⟨v5,rfl,o5,g5⟩;obtain⟨ca5,cc5,rfl,-⟩:=own_shape o5;have OW5:=hide o5;have G5:=hide g5;clear o5 g5)))
   go_roundw
   case rel=>
    have ej:joinR (rlN h k) ((k:Int)+1) (i:Int)=rlN (fun j=>if j=k then(i:Int) else h j) (k+1):=by
     have e2:rlN (fun j=>if j=k then(i:Int) else h j) k=rlN h k:=rlN_congr k (fun j hj=>if_neg (by omega))
     show _=joinR (rlN (fun j=>if j=k then(i:Int) else h j) k) _ _
     rw[e2]
     simp
    have OW6:=OW5.out
    generalize hgl:(Value.slice ca5 (joinR (rlN h k) ((k:Int)+1) (i:Int)).length cc5)=v6 at OW6
    rw[ej] at OW6
    subst hgl
    have NP4:∀z,P4 z→¬(Value.slice ca cn cc).ownBlock=some z:=fun z hp hz=>by
     obtain⟨cs',h5⟩:=own_ty OW4.out _ hz
     obtain⟨_,_,hX⟩:=HR4.out
     exact hX.nr z hp _ h5
    refine⟨k+1,by omega,by go_num,_,_,_,rfl,_,P4,hide ⟨OW6,?_,?_,fun z hz=>?_,fun z hz=>?_,fun j hj hjk=>?_⟩⟩
    ·rw[adds_take hlk]
     exact HR4.out.kept G5.out.1 NP4
    ·refine(RI.out.kp.trans_new HK4.out (fun z hz hp=>?_)).trans_new G5.out.1 (fun z hz hp=>?_)
     ·exact(RI.out.pn z hp).resolve_right (by omega)
     ·exact absurd (RI.out.vn z hp) (by omega)
    ·rcases HN4.out z hz with h1|h1
     ·exact RI.out.pn z h1
     ·exact .inr (Nat.le_trans RI.out.kp.size h1)
    ·rcases G5.out.2 z hz with h1|h1
     ·exact RI.out.vn z h1
     ·exact Nat.le_trans (Nat.le_trans RI.out.kp.size HK4.out.size) h1
    ·rw[adds_take hlk]
     by_cases e:j=k
     ·subst e
      simp only[↓reduceIte]
      exact⟨Int.natCast_nonneg i,HI.out⟩
     ·simp only[if_neg e]
      obtain⟨h1,h2⟩:=RI.out.at_ j hj (by omega)
      obtain⟨U,hu,_⟩:=plc_ext (adds Q (ks.take k)) ks[k]
      refine⟨h1,?_⟩
      rw[hu]
      have hlt:(h j).toNat<(adds Q (ks.take k)).length:=by
       rcases Nat.lt_or_ge (h j).toNat (adds Q (ks.take k)).length with h3|h3
       ·exact h3
       ·rw[List.getElem?_eq_none h3] at h2;cases h2
      rw[List.getElem?_append_left hlt]
      exact h2
   case measure=>simp[RowKit.intOf];omega
  ·have hlk':¬(k:Int)<(ks.length:Int):=by omega
   obtain rfl:k=ks.length:=by omega
   go_wp2
   go_ret
   obtain⟨g1,c1,hv,hg,hr,h1,h2⟩:=RwB.of_own RI.out.ow (rlN_pos _ hs0)
   injection hv with hv1 hv2 hv3
   subst hv1 hv2 hv3
   refine⟨h,g1,_,P',rfl,hr,hg,h1,h2,?_,(Kept.of_below B3.out).trans RI.out.kp,fun z hz=>?_,fun j hj=>?_⟩
   ·rw[HK.out.1]
    have:=RI.out.rf
    rw[List.take_length] at this
    exact this
   ·exact(RI.out.pn z hz).imp id (fun h3=>Nat.le_trans B3.out.size h3)
   ·have:=RI.out.at_ j hj hj
    rw[List.take_length] at this
    rw[HK.out.1,HK.out.2 j hj]
    exact this
theorem readRow_any (hA:CA w a S M N m PA) (hq:RfAt w r Q P) (hf:hasR N f) (hl:Q.length<100000) (hls:l<S.length) (hs:(s:Int)=S.getD l 0):
 Calls Try.prog 56 #[.pointer (some ⟨a,0,none⟩),.int .i64 f,.int .i64 (l:Int),.int .i64 (s:Int),.pointer (some ⟨r,0,none⟩)] w fun e w'=>RrL S N l s f r Q P w e w':=by
 by_cases he:lvl S N f=(l:Int)
 ·exact readRow_node hA hq hf hl hls hs he
 ·obtain⟨R,sb,sc,nv,mb,hx,hN⟩:=id hA
  have ok:=hx.ok
  rw[hN] at ok
  have hsz:=ok.sz.each (S.getD l 0) (by rw[List.getD_eq_getElem?_getD,List.getElem?_eq_getElem hls];exact List.getElem_mem _)
  have:=hf.2
  have:=ok.few
  have:=hA.m8
  exact readRow_self hA hq ⟨hf.1,by omega⟩ hl (by omega) (by omega) he
end
end Go.Proofs.Ytnddhkhmbjeefaa

