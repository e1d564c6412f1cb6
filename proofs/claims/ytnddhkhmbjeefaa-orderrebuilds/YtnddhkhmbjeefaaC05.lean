/-
  The program's Make by its contract: the walk. Condition: lists no longer than a process can hold.
-/
import Derived.Test.YtnddhkhmbjeefaaC04
namespace Go.Proofs.Ytnddhkhmbjeefaa
open Go.RowKit Go.Lib Go.Maps
def MkL (S:List Int) (M:Int) (N:List Nd) (lv:Int) (A:List Int) (w:World) (e:Ending) (w':World) (L:List Nd→(Nat→Prop)→World→Prop) (P:Nat→Prop):Prop:=
 ∃f er N',e=.returned (.tuple #[.int .i64 f,.int .i64 er])∧MkP S M N lv A f er N'∧∃P',L N' P' w'∧Kept P w w'∧(∀k,P' k→P k∨w.heap.size≤k)∧(N'=N→Below w.heap.size w w')
theorem MkL.stay {S:List Int} {M:Int} {N:List Nd} {lv:Int} {A:List Int} {w w':World} {f er:Int} {L:List Nd→(Nat→Prop)→World→Prop} {P:Nat→Prop} (h:MkP S M N lv A f er N) (hl:L N P w') (x:Below w.heap.size w w'):MkL S M N lv A w (.returned (.tuple #[.int .i64 f,.int .i64 er])) w' L P:=
 ⟨f,er,N,rfl,h,P,hl,Kept.of_below x,fun _ h=>.inl h,fun _=>x⟩
section
variable {w:World} {a:Nat} {S:List Int} {M:Int} {R:List ND} {N:List Nd} {m:Nat} {P:Nat→Prop} {sb sc mb:Nat} {nv:Value}
theorem CAx.ca (h:CAx w a S M R m P sb sc nv mb):CA w a S M (R.map ND.nd) m P:=⟨R,sb,sc,nv,mb,h,rfl⟩
theorem omap {w':World} {D:DataW Unit} {b n:Nat} (h:w.ownsMap Try.prog 9 (plainElem Try.prog 3) b n D) (e:w'.heap[b]? =w.heap[b]?):w'.ownsMap Try.prog 9 (plainElem Try.prog 3) b n D:=by
 obtain⟨es,cl,g1,g2⟩:=h
 exact⟨es,cl,e.trans g1,g2⟩
theorem CAx.grown (h:CAx w a S M R m P sb sc nv mb) {w':World} (g:w.grownBy w' nv.ownBlock):w'.heap[a]? =some (.cells #[.slice (some ⟨sb,0,none⟩) S.length sc,.int .i64 M,nv,.map (some mb)] 83 (0,0))∧w'.heap[mb]? =w.heap[mb]? :=by
 refine⟨((kept_of_grown g).block a (lt_of_block h.blk) (fun hF=>?_)).trans h.blk,(kept_of_grown g).block mb h.map.lt (fun hF=>own_ne_map h.map h.row hF)⟩
 obtain⟨cs,h5⟩:=own_ty h.row _ hF
 rw[h.blk] at h5
 simp at h5
set_option maxRecDepth 100000 in
set_option maxHeartbeats 4000000 in
theorem makeC_any (lv:Int) (ao:Option Addr) (cap:Nat) (A:List Int) (hl:A.length≤140737488351232) (hz:ZAt w ao A) (h:CAx w a S M R m P sb sc nv mb) (hm:m≤1152921504606846976):
 Calls Try.prog 22 #[.pointer (some ⟨a,0,none⟩),.int .i64 lv,.slice ao A.length cap] w fun e w'=>MkL S M (R.map ND.nd) lv A w e w' (fun N' P' V=>CA V a S M N' (m+1) P') P:=by
 have HMS:=hide (mayStand_any lv ao cap A hl hz h)
 have HH:=hide h
 have HZ:=hide hz
 by_cases hmay:May S (R.map ND.nd) lv A
 ·have HM:=hide hmay
  have hfew:=h.few
  obtain⟨⟨hl0,hl1⟩,hks,hkl,hk1⟩:=hmay.rng h.ok (by rw[List.length_map];exact hfew)
  have HKS:=hide hks
  have HAS:Hid (∀W,Below w.heap.size w W→Calls Try.prog 48 #[.slice ao A.length cap] W fun e w'=>e=.returned (.bool (decide (One A)))∧Below W.heap.size W w'):=fun W x=>allSame_any ao cap A W hl (hz.below x)
  have HKY:Hid (∀W,Below w.heap.size w W→Calls Try.prog 49 #[.int .i64 lv,.slice ao A.length cap] W fun e w'=>e=.returned (.string ⟨(keyB lv A).toArray⟩)∧Below W.heap.size W w'):=fun W x=>key_any lv ao cap A W hl0 hl1 hks hkl (hz.below x)
  have hg:=hz.get (i:=0) (by omega)
  obtain⟨bz,oz,rfl,hbz,hcz⟩:=hg
  rw[Nat.add_zero] at hcz
  have HCL:=hide (fun W (x:Below w.heap.size w W)=>clone_any ⟨bz,oz,none⟩ cap A W (by omega) (by omega) (hz.below x))
  clear hmay hz hks
  by_cases hone:One A
  ·have HO:=hide hone
   rw[decide_eq_true hone] at HAS
   clear hone h HKY HCL
   have hk1':(0:Int)<(A.length:Int):=by omega
   generalize hA0:A.getD 0 0=x0 at *
   have HA0:=hide hA0
   clear hA0
   go_enter Try.func22,Try.ntmps22
   go_upto_region 4 with(first
    |(go_at_call 47;refine HMS.out.mono ?_;rintro e w1 ⟨⟨b,rfl,hb⟩,x1⟩;have hbt:=hb.2 HM.out;subst hbt;have X1:=hide x1;clear hb x1)
    |(go_at_call 48;refine(HAS.out _ X1.out).mono ?_;rintro e w2 ⟨rfl,x2⟩;have X2:=hide (bt X1.out x2 (Nat.le_refl _));clear x2))
   have q0:=(X2.out.cell (p:=⟨bz,oz,none⟩) hbz).trans hcz
   go_wp2
   go_ret2
   exact MkL.stay (.inr (.inl ⟨HM.out,HO.out,HA0.out.symm,rfl,rfl⟩)) ((HH.out.below X2.out).ca.mono (Nat.le_succ _)) X2.out
  ·have HO:=hide hone
   rw[decide_eq_false hone] at HAS
   clear hone h hcz
   go_enter Try.func22,Try.ntmps22
   go_upto_region 6 with(first
    |(go_at_call 47;refine HMS.out.mono ?_;rintro e w1 ⟨⟨b,rfl,hb⟩,x1⟩;have hbt:=hb.2 HM.out;subst hbt;have X1:=hide x1;clear hb x1)
    |(go_at_call 48;refine(HAS.out _ X1.out).mono ?_;rintro e w2 ⟨rfl,x2⟩;have X2:=hide (bt X1.out x2 (Nat.le_refl _));clear x2)
    |(go_at_call 49;refine(HKY.out _ X2.out).mono ?_;rintro e w3 ⟨rfl,x3⟩;have X3:=hide (bt X2.out x3 (Nat.le_refl _));clear x3))
   clear HMS HAS HKY X1 X2
   have H3:=hide (HH.out.below X3.out)
   obtain⟨D,hown,hh,ha⟩:=H3.out.map
   have HOWN:=hide hown
   have HHS:=hide hh
   have HAT:=hide ha
   have HK1:=hide (keyOf_node lv A hkl)
   have hz0:∀W,(zeroValue 3).run Try.prog W=.ok (.int .i64 0) W:=fun W=>Try.zeroValue3 W
   obtain⟨c0,c1,c2,c3⟩:=H3.out.cells
   clear hown hh ha
   by_cases hin:keyL (lv,A)∈R.map fun x=>keyL x.nd
   ·have hhas:Maps.has D (keyL (lv,A))=true:=(HHS.out _).2 (.inl hin)
    have HHIT:Hid (∀c:Int,D.atKey (keyL (lv,A)) (.lit (.int .i64 0))=.lit (.int .i64 c)→MkP S M (R.map ND.nd) lv A c 0 (R.map ND.nd)):=fun c hc=>by
     obtain⟨i,hi,e,rfl⟩:=MpAt.hit HAT.out hc hin
     rw[List.length_map] at hi
     rw[List.getElem_map] at e
     unfold keyL at e
     injection e with e
     have hmi:=H3.out.ok.may (i:=i) (by rw[List.length_map];exact hi)
     rw[List.getElem_map] at hmi
     have e2:=H3.out.ok.key_inj H3.out.m8 hmi HM.out e
     refine .inr (.inr (.inl ⟨HM.out,HO.out,⟨i,?_,rfl⟩,rfl,rfl⟩))
     rw[List.getElem?_eq_getElem (by rw[List.length_map];exact hi),List.getElem_map]
     exact congrArg some e2
    go_wp2_with (at_lookup;refine wpList_lookup_own_ok_int _ rfl (.tmp 29) (.tmp 30) 81 rfl 9 3 .i64 (string_keyed Try.underlying9) Try.underlying81 Try.underlying3 (hz0 _) mb m D rfl HOWN.out _ _ rfl HK1.out ?_;intro c hat _;rw[hhas];have HMK:=hide (HHIT.out c hat);clear hat)
    go_ret2
    exact MkL.stay HMK.out (H3.out.ca.mono (Nat.le_succ _)) X3.out
   ·have hhas:Maps.has D (keyL (lv,A))=false:=by
     cases e:Maps.has D (keyL (lv,A))
     ·rfl
     ·rcases (HHS.out _).1 e with h|h
      ·exact absurd h hin
      ·cases h
    have HNIN:Hid ((lv,A)∉R.map ND.nd):=fun h=>hin (by
     obtain⟨x,hx,e⟩:=List.mem_map.1 h
     exact List.mem_map.2 ⟨x,hx,by rw[e]⟩)
    obtain⟨na,nc,hnv,hnp⟩:=H3.out.shape
    subst hnv
    have HIN:=hide hin
    clear hin
    go_upto_region 9 with(at_lookup;refine wpList_lookup_own_ok_int _ rfl (.tmp 29) (.tmp 30) 81 rfl 9 3 .i64 (string_keyed Try.underlying9) Try.underlying81 Try.underlying3 (hz0 _) mb m D rfl HOWN.out _ _ rfl HK1.out ?_;intro c hat _;rw[hhas];clear hat)
    by_cases hfull:M≤(R.length:Int)
    ·have HMK:Hid (MkP S M (R.map ND.nd) lv A 0 2 (R.map ND.nd)):=.inr (.inr (.inr (.inl ⟨HM.out,HO.out,HNIN.out,by rw[List.length_map];exact hfull,rfl,rfl,rfl⟩)))
     go_quiet (fail)
     go_wp2
     go_ret2
     exact MkL.stay HMK.out ((H3.out.below (below_drewN (Below.refl _ _) _)).ca.mono (Nat.le_succ _)) (below_drewN X3.out _)
    ·have hfull':(R.length:Int)<M:=by omega
     have HFU:Hid (((R.map ND.nd).length:Int)<M):=by unfold Hid;rw[List.length_map];exact hfull'
     have e9:IntKind.i64.wrap (2+(R.length:Int))=(R.length:Int)+2:=by simp[IntKind.wrap,IntKind.bits,IntKind.signed];omega
     obtain⟨i47,hi47,hz470,hz471,hz472⟩:=info_parts Try.info47
     go_quiet (fail)
     go_upto_region 12 with fail
     have Y4:=hide (below_drewN (Below.refl w3.heap.size w3) nq)
     generalize w3.drewN nq=w4 at *
     have X4:=hide (bt X3.out Y4.out (Nat.le_refl _))
     have H4:=hide (H3.out.below Y4.out)
     have HO4:=hide (omap HOWN.out (Y4.out.block mb HOWN.out.lt))
     clear c0 c1 c2 c3 HOWN H3 X3 Y4
     have X5:=hide (bt X4.out (Below.refl w4.heap.size w4).drew (Nat.le_refl _))
     have H5:=hide (H4.out.below (Below.refl w4.heap.size w4).drew)
     have HO5:=hide (omap HO4.out ((Below.refl w4.heap.size w4).drew.block mb HO4.out.lt))
     have HS0:Hid ((fun V:World=>V.cell? ⟨a,2,none⟩=some (.slice na R.length nc)) w4.drew):=H5.out.cells.2.2.1
     refine wp_unt (S:=fun V=>V.cell? ⟨a,2,none⟩=some (.slice na R.length nc)) 13 (by kernel_rfl) ?_
     generalize w4.drew=wd at *
     refine UntH.tk 0 rfl 52 HS0.out (fun w' q0=>by go_simp;first|done|rfl) ?_
     refine UntH.tk 1 rfl 53 HS0.out (fun w' q0=>by go_simp;first|done|rfl) ?_
     refine UntH.tk 2 rfl 54 HS0.out (fun w' q0=>by go_simp;first|done|rfl) ?_
     refine UntH.tk 3 rfl 55 HS0.out (fun w' q0=>by go_simp;first|done|rfl) ?_
     refine UntH.tk 4 rfl 56 HS0.out (fun w' q0=>by go_simp;first|done|rfl) ?_
     refine UntH.tk 5 rfl 57 HS0.out (fun w' q0=>by go_simp;first|done|rfl) ?_
     refine UntH.tk 6 rfl 58 HS0.out (fun w' q0=>by go_simp;first|done|rfl) ?_
     try simp only[Act.put,List.setIfInBounds_toArray,List.set_cons_zero,List.set_cons_succ]
     refine UntH.step (i:=7) (by kernel_rfl) rfl (fun K hK=>?_)
     go_simp
     refine(HCL.out wd X5.out).mono ?_
     rintro e w6 ⟨⟨g6,cg6,rfl,o6,z6,l6⟩,x6⟩
     have Z6:=hide z6
     have L6:=hide (Nat.le_trans X5.out.size l6)
     have X6:=hide (bt X5.out x6 (Nat.le_refl _))
     have H6:=hide (H5.out.below x6)
     have HO6:=hide (omap HO5.out (x6.block mb HO5.out.lt))
     have HS6:=hide H6.out.cells.2.2.1
     refine hK _ _ HS6.out ?_
     clear hK K o6 z6 l6 x6 HCL
     try simp only[Act.put,List.setIfInBounds_toArray,List.set_cons_zero,List.set_cons_succ]
     refine UntH.tk 8 rfl 60 HS6.out (fun w' q0=>by go_simp;first|done|rfl) ?_
     try simp only[Act.put,List.setIfInBounds_toArray,List.set_cons_zero,List.set_cons_succ]
     have y7:Below w6.heap.size w6 (w6.alloc (.cells #[.int .i64 lv,.slice (some ⟨g6,0,none⟩) A.length cg6] 86)):=al (Below.refl _ _) _
     have H7:=hide (H6.out.below y7)
     have Z7:=hide (Z6.out.below y7)
     have HO7:=hide (omap HO6.out (y7.block mb HO6.out.lt))
     have X7:=hide (bt X6.out y7 (Nat.le_refl _))
     have HS7:=hide H7.out.cells.2.2.1
     have HNW:=hide (two_new w6 (.int .i64 lv) (.slice (some ⟨g6,0,none⟩) A.length cg6) 86)
     have E7:Hid ((w6.alloc (.cells #[.int .i64 lv,.slice (some ⟨g6,0,none⟩) A.length cg6] 86)).heap.size=w6.heap.size+1):=by unfold Hid;simp
     refine UntH.step (i:=9) (by kernel_rfl) rfl (fun K hK=>?_)
     go_simp
     refine hK _ _ HS7.out ?_
     clear hK K y7
     generalize w6.alloc (.cells #[.int .i64 lv,.slice (some ⟨g6,0,none⟩) A.length cg6] 86)=w7 at *
     refine UntH.step (i:=10) (by kernel_rfl) rfl (fun K hK=>?_)
     refine step_append_lies _ (by rfl) (.tmp 56) (.tmp 61) 63 (by rfl) 0 86 i47 (.agg #[.int .i64 0,.slice none 0 0]) 2 32 Try.underlying63 hi47 hz470 hz471 hz472 rfl (by decide) _ R.length (ndC R) (by rfl) H7.out.row ⟨w6.heap.size,0,none⟩ 1 1 [.int .i64 lv,.slice (some ⟨g6,0,none⟩) A.length cg6] (by rfl) (by rfl) HNW.out (by simp[Value.oneCell']) (by decide) (by unfold maxLen;omega) (by omega) (Nat.zero_le _) _ rfl ?_
     intro g8 cap8 w8 h1 h2 h3 h4
     have HB8:=hide (H7.out.grown h2)
     have HO8:=hide h1
     have HG8:=hide h2
     have HL8:Hid (∀k,(Value.slice (some ⟨g8,0,none⟩) (R.length+1) cap8).ownBlock=some k→(Value.slice na R.length nc).ownBlock=some k∨w7.heap.size≤k):=fun k hk=>by
      have e:g8=k:=Option.some.inj hk
      subst e
      rcases h3 with h3|h3
      ·exact .inl h3
      ·exact .inr (by omega)
     have HS8:Hid (w8.cell? ⟨a,2,none⟩=some (.slice na R.length nc)):=by unfold Hid;rw[cell_of_row w8 a _ _ _ _ HB8.out.1];rfl
     have f8:=frozen_of_row w8 a 2 _ _ HB8.out.1
     refine hK _ _ HS8.out ?_
     clear hK K h1 h2 h3 h4
     refine UntH.tk 11 rfl 63 HS8.out (fun w' q0=>by go_simp;first|done|rfl) ?_
     refine UntH.tk 12 rfl 64 HS8.out (fun w' q0=>by go_simp;first|done|rfl) ?_
     have q8:=HS8.out
     refine UntH.last (by kernel_rfl) rfl (by kernel_rfl) (by kernel_rfl) (fun K hK=>?_)
     go_simp
     refine hK _ _ ?_
     clear hK K q8 f8 HS8 HS7 HS6 HS0
     have B9:Hid ((w8.setCell ⟨a,2,none⟩ (.slice (some ⟨g8,0,none⟩) (R.length+1) cap8)).heap[a]? =some (.cells #[.slice (some ⟨sb,0,none⟩) S.length sc,.int .i64 M,.slice (some ⟨g8,0,none⟩) (R.length+1) cap8,.map (some mb)] 83 (0,0))):=by
      have:=block_setCell HB8.out.1 2 (.slice (some ⟨g8,0,none⟩) (R.length+1) cap8)
      simpa [Hid] using this
     have HM9:Hid ((w8.setCell ⟨a,2,none⟩ (.slice (some ⟨g8,0,none⟩) (R.length+1) cap8)).ownsMap Try.prog 9 (plainElem Try.prog 3) mb m D):=omap HO7.out ((Below.heap_setCell _ _ _ _ (fun e=>by
      obtain⟨es,cl,g1⟩:=H7.out.map.blk
      rw[e,H7.out.blk] at g1
      cases g1)).trans HB8.out.2)
     have HAD:Hid (∀w10,MpAt w10 mb (m+1) ((R.map fun x=>keyL x.nd)++[keyL (lv,A)]) []→(w8.setCell ⟨a,2,none⟩ (.slice (some ⟨g8,0,none⟩) (R.length+1) cap8)).mapTurned w10 mb→_):=fun w10 h6 t6=>HH.out.add (w6:=w10) X7.out Z7.out L6.out HM.out HO.out HNIN.out HFU.out HO8.out HG8.out HL8.out h6 t6
     have HPU:=hide (fun(w10:World) (h1:w10.ownsMap Try.prog 9 (plainElem Try.prog 3) mb (m+1) (D.put (keyL (lv,A)) (.lit (.int .i64 (((R.map fun x=>keyL x.nd).length:Int)+2)))))=>MpAt.put (keyL_key (lv,A)) HIN.out HM9.out.isMap HHS.out HAT.out h1)
     rw[List.length_map] at HPU
     have c3:(w8.setCell ⟨a,2,none⟩ (.slice (some ⟨g8,0,none⟩) (R.length+1) cap8)).cell? ⟨a,3,none⟩=some (.map (some mb)):=by rw[cell_of_row _ a _ _ _ _ B9.out];rfl
     clear HB8 HO8 HG8 HL8 HO7 HO6 HO5 HO4 H7 H6 H5 H4 Z7 Z6 X7 X6 X5 X4 E7 HNW L6
     generalize w8.setCell ⟨a,2,none⟩ (.slice (some ⟨g8,0,none⟩) (R.length+1) cap8)=w9 at *
     go_wp2_with (at_mapUpdate;refine wpList_mapUpdate_in _ rfl (.tmp 68) (.tmp 69) (.tmp 70) 81 rfl 9 3 (string_keyed Try.underlying9) Try.underlying81 _ mb m D rfl HM9.out (by unfold maxLen;omega) _ _ _ rfl rfl HK1.out _ [] (plainElem_int Try.underlying3 (WalkArith.wf_i64 (by omega))) ?_;intro w10 t1 t2;have T1:=hide t1;have T2:=hide t2;clear t1 t2)
     go_ret2
     obtain⟨P',p1,p2,p3⟩:=HAD.out w10 (HPU.out w10 T1.out) T2.out
     exact⟨_,_,_,rfl,.inr (.inr (.inr (.inr ⟨HM.out,HO.out,HNIN.out,HFU.out,by rw[List.length_map],rfl,rfl⟩))),P',p1,p2,p3,fun e=>by
      have:=congrArg List.length e
      simp at this⟩
 ·have HM:=hide hmay
  clear hmay hz h
  go_enter Try.func22,Try.ntmps22
  go_wp2_with (go_at_call 47;refine HMS.out.mono ?_;rintro e w1 ⟨⟨b,rfl,hb⟩,x1⟩;have hbt:b=false:=(by cases b with|false=>rfl|true=>exact absurd (hb.1 rfl) HM.out);subst hbt;have X1:=hide x1;clear hb x1)
  go_ret2
  exact MkL.stay (.inl ⟨HM.out,rfl,rfl,rfl⟩) ((HH.out.below X1.out).ca.mono (Nat.le_succ _)) X1.out
end
def NdL (N:List Nd) (f:Int) (w:World) (e:Ending) (w':World):Prop:=
 ((∃(i:Nat) (lv:Int) (ks:List Int) (g c:Nat),N[i]? =some (lv,ks)∧f=(i:Int)+2∧e=.returned (.tuple #[.agg #[.int .i64 lv,.slice (some ⟨g,0,none⟩) ks.length c],.int .i64 0])∧w'.ownsRow w.heap.size 3 1 (.slice (some ⟨g,0,none⟩) ks.length c) ks.length (zC ks)∧ZBk w' g ks∧w.heap.size≤g)∨
  (¬(2≤f∧f<(N.length:Int)+2)∧e=.returned (.tuple #[.agg #[.int .i64 0,.slice none 0 0],.int .i64 1])))∧Below w.heap.size w w'
theorem bl {N:Nat} {a w:World} (h:Below N a w) {b:Nat} (hb:N≤b) (j:Nat) (u:Value):Below N a (w.setCell ⟨b,j,none⟩ u):=h.setCell (by simpa using hb) _
section
variable {w:World} {a:Nat} {S:List Int} {M:Int} {R:List ND} {N:List Nd} {m:Nat} {P:Nat→Prop} {sb sc mb:Nat} {nv:Value}
set_option maxRecDepth 100000 in
set_option maxHeartbeats 4000000 in
theorem nodeC_any (f:Int) (h:CAx w a S M R m P sb sc nv mb):Calls Try.prog 45 #[.pointer (some ⟨a,0,none⟩),.int .i64 f] w fun e w'=>NdL (R.map ND.nd) f w e w':=by
 have y0:Below w.heap.size w (w.alloc (.cells #[.int .i64 0,.slice none 0 0] 86)):=al (Below.refl _ _) _
 have h0:=h.below y0
 have HN:=isNode_any f h0
 have b0:=heap_alloc_new w (.cells #[.int .i64 0,.slice none 0 0] 86)
 by_cases hc:2≤f∧f<(R.length:Int)+2
 ·obtain⟨i,hi,rfl,-⟩:=lvl_node (S:=S) hc.1 hc.2
  rw[isN_true hc.1 hc.2] at HN
  have HN':=hide HN
  obtain⟨c0,c1,c2,c3⟩:=h0.cells
  have hfw:=h.few
  obtain⟨ao,cap,hv,hp⟩:=h.shape
  obtain⟨g,rfl⟩:=hp (by omega)
  subst hv
  obtain⟨d0,d1⟩:=h0.node rfl hi
  have e1:IntKind.i64.wrap ((i:Int)+2-2)=(i:Int):=by simp[IntKind.wrap,IntKind.bits,IntKind.signed];omega
  have hi':(i:Int)<(R.length:Int):=by omega
  have HND:Hid ((R.map ND.nd)[i]? =some ((R[i]).lv,(R[i]).ks)):=by unfold Hid;rw[List.getElem?_eq_getElem (by simpa using hi),List.getElem_map];rfl
  have hmi:=h.ok.may (i:=i) (by rw[List.length_map];exact hi)
  rw[List.getElem_map] at hmi
  obtain⟨-,-,hk1,hk2⟩:=hmi.rng h.ok (by rw[List.length_map];exact hfw)
  have hkz:=h0.kid (R[i]) (List.getElem_mem hi)
  simp only[ND.nd] at hk1 hk2
  clear h hp HN h0 hc hmi
  generalize (R[i]).lv=lv at *
  generalize (R[i]).ks=ks at *
  generalize (R[i]).kb=kb at *
  generalize (R[i]).kc=kc at *
  have HB0:=hide b0
  have HY0:=hide y0
  have HKZ:=hide hkz
  have HI:=hide hi
  have E0:Hid ((w.alloc (.cells #[.int .i64 0,.slice none 0 0] 86)).heap.size=w.heap.size+1):=by unfold Hid;simp
  clear b0 y0 hkz hi
  go_enter Try.func45,Try.ntmps45
  go_upto_region 4 with(go_at_call 50;refine HN'.out.mono ?_;rintro e w1 ⟨rfl,hw1⟩;subst hw1)
  have y1:Below (w.alloc (.cells #[.int .i64 0,.slice none 0 0] 86)).heap.size (w.alloc (.cells #[.int .i64 0,.slice none 0 0] 86)) ((w.alloc (.cells #[.int .i64 0,.slice none 0 0] 86)).alloc (.cells #[.int .i64 lv,.slice (some ⟨kb,0,none⟩) ks.length kc] 86)):=al (Below.refl _ _) _
  have B1:=hide (heap_alloc_new (w.alloc (.cells #[.int .i64 0,.slice none 0 0] 86)) (.cells #[.int .i64 lv,.slice (some ⟨kb,0,none⟩) ks.length kc] 86))
  rw[E0.out] at B1
  have B0:=hide ((y1.block w.heap.size (lt_of_block HB0.out)).trans HB0.out)
  have Z1:=hide (HKZ.out.below y1)
  have Y1:=hide (bt HY0.out y1 (Nat.le_refl _))
  clear y1 c0 c1 c2 c3 d0 d1 HB0 HKZ HY0 HN' E0
  generalize (w.alloc (.cells #[.int .i64 0,.slice none 0 0] 86)).alloc (.cells #[.int .i64 lv,.slice (some ⟨kb,0,none⟩) ks.length kc] 86)=W at *
  have yd:Below W.heap.size W W.drew:=(Below.refl _ _).drew
  have B0d:=hide ((yd.block _ (lt_of_block B0.out)).trans B0.out)
  have B1d:=hide ((yd.block _ (lt_of_block B1.out)).trans B1.out)
  have Zd:=hide (Z1.out.below yd)
  have Yd:=hide (bt Y1.out yd (Nat.le_refl _))
  have HS0:Hid (W.drew.cell? ⟨w.heap.size+1,0,none⟩=some (.int .i64 lv)∧W.drew.cell? ⟨w.heap.size+1,1,none⟩=some (.slice (some ⟨kb,0,none⟩) ks.length kc)):=⟨by rw[cell_of_row _ _ 0 _ _ _ B1d.out];rfl,by rw[cell_of_row _ _ 1 _ _ _ B1d.out];rfl⟩
  have HCL:=hide (clone_any ⟨kb,0,none⟩ kc ks W.drew (by omega) (by omega) Zd.out.at)
  refine wp_unt (S:=fun V=>V.cell? ⟨w.heap.size+1,0,none⟩=some (.int .i64 lv)∧V.cell? ⟨w.heap.size+1,1,none⟩=some (.slice (some ⟨kb,0,none⟩) ks.length kc)) 6 (by kernel_rfl) ?_
  clear yd B0 B1 Z1 Y1
  generalize W.drew=wd at *
  refine UntH.tk 0 rfl 20 HS0.out (fun w' ⟨q0,q1⟩=>by go_simp;first|done|rfl) ?_
  refine UntH.tk 1 rfl 21 HS0.out (fun w' ⟨q0,q1⟩=>by go_simp;first|done|rfl) ?_
  refine UntH.tk 2 rfl 22 HS0.out (fun w' ⟨q0,q1⟩=>by go_simp;first|done|rfl) ?_
  refine UntH.tk 3 rfl 23 HS0.out (fun w' ⟨q0,q1⟩=>by go_simp;first|done|rfl) ?_
  try simp only[Act.put,List.setIfInBounds_toArray,List.set_cons_zero,List.set_cons_succ]
  refine UntH.step (i:=4) (by kernel_rfl) rfl (fun K hK=>?_)
  go_simp
  refine HCL.out.mono ?_
  rintro e w6 ⟨⟨g6,cg6,rfl,o6,z6,l6⟩,x6⟩
  have O6:=hide (own_mono o6 Yd.out.size)
  have Z6:=hide z6
  have L6:=hide (Nat.le_trans Yd.out.size l6)
  have HL6:=hide l6
  have Y6:=hide (bt Yd.out x6 (Nat.le_refl _))
  have B06:=hide ((x6.block _ (lt_of_block B0d.out)).trans B0d.out)
  have B16:=hide ((x6.block _ (lt_of_block B1d.out)).trans B1d.out)
  have HBL:=hide (lt_of_block B0d.out)
  have HS6:Hid (w6.cell? ⟨w.heap.size+1,0,none⟩=some (.int .i64 lv)∧w6.cell? ⟨w.heap.size+1,1,none⟩=some (.slice (some ⟨kb,0,none⟩) ks.length kc)):=⟨by rw[cell_of_row _ _ 0 _ _ _ B16.out];rfl,by rw[cell_of_row _ _ 1 _ _ _ B16.out];rfl⟩
  refine hK _ _ HS6.out ?_
  clear hK K o6 z6 l6 x6 HCL
  try simp only[Act.put,List.setIfInBounds_toArray,List.set_cons_zero,List.set_cons_succ]
  refine UntH.tk 5 rfl 25 HS6.out (fun w' ⟨q0,q1⟩=>by go_simp;first|done|rfl) ?_
  try simp only[Act.put,List.setIfInBounds_toArray,List.set_cons_zero,List.set_cons_succ]
  have r0:w6.cell? ⟨w.heap.size,0,none⟩=some (.int .i64 0):=by rw[cell_of_row _ _ 0 _ _ _ B06.out];rfl
  have r1:w6.cell? ⟨w.heap.size,1,none⟩=some (.slice none 0 0):=by rw[cell_of_row _ _ 1 _ _ _ B06.out];rfl
  have f0:=frozen_of_row w6 w.heap.size 0 _ _ B06.out
  have f1:=frozen_of_row w6 w.heap.size 1 _ _ B06.out
  refine UntH.stepf (i:=6) (by kernel_rfl) rfl (by kernel_rfl) (fun K hK=>?_)
  go_simp
  refine hK _ _ ?_
  clear hK K r0 r1 f0 f1 HS0 HS6 B1d B16
  have b2:=block_setCell (block_setCell B06.out 0 (.int .i64 lv)) 1 (.slice (some ⟨g6,0,none⟩) ks.length cg6)
  have k2:Kept (fun k=>k=w.heap.size) w6 ((w6.setCell ⟨w.heap.size,0,none⟩ (.int .i64 lv)).setCell ⟨w.heap.size,1,none⟩ (.slice (some ⟨g6,0,none⟩) ks.length cg6)):=Kept.setCell (F:=fun k=>k=w.heap.size) (p:=⟨w.heap.size,1,none⟩) (Kept.setCell (F:=fun k=>k=w.heap.size) (p:=⟨w.heap.size,0,none⟩) (Kept.refl _ _) rfl _) rfl _
  have HB2:=hide b2
  have HK2:=hide k2
  have hng:¬g6=w.heap.size:=by have h1:=HL6.out;have h2:=HBL.out;omega
  have Y7:=hide (bl (bl Y6.out (Nat.le_refl _) 0 (.int .i64 lv)) (Nat.le_refl _) 1 (.slice (some ⟨g6,0,none⟩) ks.length cg6))
  clear b2 k2
  generalize (w6.setCell ⟨w.heap.size,0,none⟩ (.int .i64 lv)).setCell ⟨w.heap.size,1,none⟩ (.slice (some ⟨g6,0,none⟩) ks.length cg6)=w7 at *
  have O7:=hide (own_kept O6.out HK2.out (fun k hk e=>hng (by have:g6=k:=Option.some.inj hk;omega)))
  have Z7:=hide (Z6.out.kept HK2.out hng)
  refine UntH.stepf (i:=7) (by kernel_rfl) rfl (by kernel_rfl) (fun K hK=>?_)
  go_simp
  refine hK _ _ ?_
  clear hK K
  refine UntH.end (by kernel_rfl) ?_
  go_wp2
  have r3:w7.cell? ⟨w.heap.size,0,none⟩=some (.int .i64 lv):=by rw[cell_of_row w7 w.heap.size 0 _ _ _ HB2.out];rfl
  have r4:w7.cell? ⟨w.heap.size,1,none⟩=some (.slice (some ⟨g6,0,none⟩) ks.length cg6):=by rw[cell_of_row w7 w.heap.size 1 _ _ _ HB2.out];rfl
  refine bodyPost_ret (by simp[results,Try.results45,go_sem,r3,r4];try rfl) rfl ?_
  exact⟨.inl ⟨i,lv,ks,g6,cg6,HND.out,rfl,rfl,O7.out,Z7.out,L6.out⟩,Y7.out⟩
 ·have e0:isN R.length f=false:=by
   by_cases h1:2≤f
   ·exact isN_hi (fun h2=>hc ⟨h1,h2⟩)
   ·exact isN_lo h1
  rw[e0] at HN
  have HN':=hide HN
  have HC:Hid (¬(2≤f∧f<((R.map ND.nd).length:Int)+2)):=by unfold Hid;rw[List.length_map];exact hc
  clear HN e0 hc h h0
  have HY0:=hide y0
  have r0:(w.alloc (.cells #[.int .i64 0,.slice none 0 0] 86)).cell? ⟨w.heap.size,0,none⟩=some (.int .i64 0):=by rw[cell_of_row _ _ 0 _ _ _ b0];rfl
  have r1:(w.alloc (.cells #[.int .i64 0,.slice none 0 0] 86)).cell? ⟨w.heap.size,1,none⟩=some (.slice none 0 0):=by rw[cell_of_row _ _ 1 _ _ _ b0];rfl
  clear y0
  go_enter Try.func45,Try.ntmps45
  go_wp2_with (go_at_call 50;refine HN'.out.mono ?_;rintro e w1 ⟨rfl,hw1⟩;subst hw1)
  refine bodyPost_ret (by simp[results,Try.results45,go_sem,r0,r1];try rfl) rfl ?_
  exact⟨.inr ⟨HC.out,rfl⟩,HY0.out⟩
end
theorem MpAt.drop {w':World} {b m:Nat} {A B:List Lit} {kl:Lit} {D:DataW Unit} (hn:kl∉A) (hn2:kl∉B) (hh:∀x,Maps.has D x=true↔x∈A∨x∈kl::B) (ha:∀i (h:i<A.length),D.atKey A[i] (.lit (.int .i64 0))=.lit (.int .i64 ((i:Int)+2)))
 (h1:w'.ownsMap Try.prog 9 (plainElem Try.prog 3) b m (D.del kl)):MpAt w' b m A B:=by
 refine⟨_,h1,fun x=>?_,fun i hi=>?_⟩
 ·by_cases hx:x=kl
  ·subst hx
   rw[Maps.has_del_same]
   simp[hn,hn2]
  ·rw[Maps.has_del_other hx,hh x]
   simp[hx]
 ·rw[Maps.atKey_del_other (fun e=>hn (by rw[←e];exact List.getElem_mem hi))]
  exact ha i hi
theorem MpAt.part {w:World} {b m:Nat} {A:List Lit} (h:MpAt w b m A []) (n:Nat):MpAt w b m (A.take n) (A.drop n):=by
 obtain⟨D,h1,h2,h3⟩:=h
 refine⟨D,h1,fun kl=>?_,fun i hi=>?_⟩
 ·rw[h2 kl,←List.mem_append,←List.mem_append,List.take_append_drop,List.append_nil]
 ·rw[List.length_take] at hi
  rw[List.getElem_take]
  exact h3 i (by omega)
section
variable {w:World} {a:Nat} {S:List Int} {M:Int} {R:List ND} {N:List Nd} {m:Nat} {P:Nat→Prop} {sb sc mb:Nat} {nv:Value}
theorem own_cap' {w:World} {base size n cap:Nat} {ao:Option Addr} {e:TypeId} {xs:List Value} (h:w.ownsRow base e size (.slice ao n cap) n xs):n≤cap:=by
 rcases h.2 with⟨e,_⟩|⟨g',cap',cur,e,hb,hg,h1,_⟩
 ·injection e with _ e2 e3;omega
 ·injection e with _ _ e3
  omega
theorem CAx.cut (h:CAx w a S M R m P sb sc nv mb) {n:Nat} {w1 w2:World} (k1:Kept (fun k=>k=mb) w w1) (hm:MpAt w1 mb m ((R.map fun x=>keyL x.nd).take n) []) (k2:Kept (fun k=>nv.ownBlock=some k) w1 w2) {nv':Value} (hr:w2.ownsRow 0 86 2 nv' (min n R.length) ((ndC R).take (n*2))) (hn:∀k,nv'.ownBlock=some k→nv.ownBlock=some k):
 CA (w2.setCell ⟨a,2,none⟩ nv') a S M ((R.map ND.nd).take n) m P∧Kept P w (w2.setCell ⟨a,2,none⟩ nv'):=by
 have k3:Kept (fun k=>k=a) w2 (w2.setCell ⟨a,2,none⟩ nv'):=Kept.setCell (F:=fun k=>k=a) (p:=⟨a,2,none⟩) (Kept.refl _ _) rfl _
 obtain⟨es,cl,hmb⟩:=h.map.blk
 have ham:a≠mb:=fun e=>by subst e;rw[h.blk] at hmb;cases hmb
 have hna:¬nv.ownBlock=some a:=fun hF=>by
  obtain⟨cs,h5⟩:=own_ty h.row _ hF
  rw[h.blk] at h5
  simp at h5
 have kk:Kept (fun k=>k=mb∨nv.ownBlock=some k∨k=a) w (w2.setCell ⟨a,2,none⟩ nv'):=((k1.mono (fun _ h=>.inl h)).trans (k2.mono (fun _ h=>.inr (.inl h)))).trans (k3.mono (fun _ h=>.inr (.inr h)))
 have zk:∀ {b:Nat} {L:List Int},ZBk w b L→ZBk (w2.setCell ⟨a,2,none⟩ nv') b L:=fun hz=>hz.kept kk (fun hF=>by
  rcases hF with hF|hF|hF
  ·exact hz.ne_map hmb hF
  ·obtain⟨cs,h5⟩:=own_ty h.row _ hF
   exact hz.ne h5 (by decide) rfl
  ·exact hz.ne h.blk (by decide) hF)
 have hb1:=(k1.block a (lt_of_block h.blk) ham).trans h.blk
 have hb2:=(k2.block a (lt_of_block hb1) hna).trans hb1
 have hb3:(w2.setCell ⟨a,2,none⟩ nv').heap[a]? =some (.cells #[.slice (some ⟨sb,0,none⟩) S.length sc,.int .i64 M,nv',.map (some mb)] 83 (0,0)):=by
  have:=block_setCell hb2 2 nv'
  simpa using this
 have hm2:=(hm.kept k2 (own_ne_map h.map h.row)).kept k3 (fun e=>ham e.symm)
 have hr3:(w2.setCell ⟨a,2,none⟩ nv').ownsRow 0 86 2 nv' (R.take n).length (ndC (R.take n)):=by
  rw[ndC_take,List.length_take]
  exact own_kept hr k3 (fun k hk e=>hna (by rw[←e];exact hn k hk))
 refine⟨⟨R.take n,sb,sc,nv',mb,⟨hb3,zk h.sz,hr3,fun x hx=>zk (h.kid x (List.mem_of_mem_take hx)),by rw[List.map_take];exact hm2,h.pa,h.ps,fun k hk=>h.pn k (hn k hk),h.pm,fun x hx=>h.pk x (List.mem_of_mem_take hx),fun k hk=>Nat.lt_of_lt_of_le (h.plt k hk) kk.size,by rw[List.map_take];exact h.ok.take n,h.m8⟩,List.map_take⟩,kk.mono (fun k hk=>?_)⟩
 rcases hk with hk|hk|hk
 ·rw[hk];exact h.pm
 ·exact h.pn k hk
 ·rw[hk];exact h.pa
end
end Go.Proofs.Ytnddhkhmbjeefaa

