/-
  best by its contract. Conditions: at most 7 levels of at most 4 classes, at most 4095 functions.
-/
import Derived.Test.YtnddhkhmbjeefaaC28
namespace Go.Proofs.Ytnddhkhmbjeefaa
open Go.RowKit Go.Lib Go.Maps
attribute [local go_sem] Oper.semAt_some
theorem wp_calm {P:Program} {c:Code} {Q:Exit→Act→World→Prop} {a:Act} {w:World} (h:c.wp P (fun e a w=>e=.normal∧Q e a w) a w):c.wp P Q a w:=wp_mono h (fun _ _ _ h=>h.2)
def BsL (S:List Int) (F:List Phi) (ra:Option Addr) (rc:Nat) (R:List Int) (d:DX) (ls:Int) (E:List Int) (v:Int) (p:Nat) (w:World) (e:Ending) (w':World):Prop:=
 ∃xs,SOt S F R (ls-1) E v p xs∧e=.returned (dgV ra R.length rc (bstF (d,ls) xs).1.lb (bstF (d,ls) xs).1.Ls.length (bstF (d,ls) xs).1.lc)∧PxO S F ra R 0 (bstF (d,ls) xs).1 w'∧Below w.heap.size w w'
section
variable {S:List Int} {F:List Phi} {R:List Int} {ra:Option Addr} {rc lb lc B:Nat} {Ls:List LA} {E:List Int} {v most:Int} {p:Nat} {w:World}
set_option maxRecDepth 100000 in
set_option maxHeartbeats 4000000 in
theorem best_any (hS:SzOk S) (hm:Sml S F) (G:GD S F R (layL Ls)) (ho:ordL Ls=mv E v p) (hp:p≤E.length) (h0:0≤most) (h8:most≤8192) (D:DgX w B ra lb lc R Ls) {ls:Int} (hls:(if most+1<(nodesL (layL Ls):Int) then most+1 else(nodesL (layL Ls):Int))=ls):
 Calls Try.prog 39 #[dgV ra R.length rc lb Ls.length lc,.int .i64 v,.int .i64 most] w fun e w'=>BsL S F ra rc R ⟨lb,lc,Ls⟩ ls E v p w e w':=by
 have h7:Ls.length≤12:=by have h1:=G.len;have h2:=hm.len;rw[List.length_map] at h1;omega
 have hS7:=hm.len
 have hl1:0≤ls∧ls≤8193:=by rw[←hls];split<;>omega
 have HIT:Hid (∀b',ItC 80 (otCap b') (encD ra rc R) (PxO S F ra R) (SOt S F R (ls-1) E v p) (fun Q w=>Ot9 w Q b' ra rc R lb lc Ls v (ls-1))):=fun b'=>others_it hS hm G ho hp (by omega) (by omega)
 have X1:Hid (Below w.heap.size w ((w.alloc (.cells #[.slice ra R.length rc,.slice (some ⟨lb,0,none⟩) Ls.length lc] 70)).alloc (.cells #[.slice none 0 0,.slice none 0 0] 70))):=al (al (Below.refl _ _) _) _
 have B3:Hid (((w.alloc (.cells #[.slice ra R.length rc,.slice (some ⟨lb,0,none⟩) Ls.length lc] 70)).alloc (.cells #[.slice none 0 0,.slice none 0 0] 70)).heap[w.heap.size]? =some (.cells #[.slice ra R.length rc,.slice (some ⟨lb,0,none⟩) Ls.length lc] 70 (0,0))):=((al (Below.refl _ (w.alloc (.cells #[.slice ra R.length rc,.slice (some ⟨lb,0,none⟩) Ls.length lc] 70))) (.cells #[.slice none 0 0,.slice none 0 0] 70)).block _ (by simp)).trans (heap_alloc_new w _)
 have B6:Hid (((w.alloc (.cells #[.slice ra R.length rc,.slice (some ⟨lb,0,none⟩) Ls.length lc] 70)).alloc (.cells #[.slice none 0 0,.slice none 0 0] 70)).heap[w.heap.size+1]? =some (.cells #[.slice none 0 0,.slice none 0 0] 70 (0,0))):=by
  have:=heap_alloc_new (w.alloc (.cells #[.slice ra R.length rc,.slice (some ⟨lb,0,none⟩) Ls.length lc] 70)) (.cells #[.slice none 0 0,.slice none 0 0] 70)
  simpa [Hid] using this
 have HD:=hide ((D.below (X1.out.mono D.hB)).mono (Nat.le_trans D.hB X1.out.size) (Nat.le_refl _))
 have HG:=hide G
 have E1:IntKind.i64.wrap (most+1)=most+1:=by simp[IntKind.wrap,IntKind.bits,IntKind.signed];omega
 have E2:IntKind.i64.wrap (ls-1)=ls-1:=by simp[IntKind.wrap,IntKind.bits,IntKind.signed];omega
 have NDS0:Hid (∀(V:World) (B':Nat),DgX V B' ra lb lc R Ls→Calls Try.prog 70 #[dgV ra R.length rc lb Ls.length lc] V fun e w'=>e=.returned (.int .i64 (nodesL (layL Ls):Nat))∧Below V.heap.size V w'):=fun V B' D'=>nodes_any h7 D'
 generalize (nodesL (layL Ls):Int)=nd at *
 have MIN:∀W,(Builtin.min_ #[3,3] 3 #[.int .i64 nd,.int .i64 (most+1)]).run Try.prog W=.ok (.int .i64 ls) W:=fun W=>by rw[←hls];rfl
 clear D hS hm G ho hls
 refine callsIn_wide.1 (callsIn_of_wp_marks (n:=0) Try.func39 rfl trivial (wpIn_wide.2 ?_) rfl)
 simp only[Try.ntmps39,List.size_toArray,List.length_cons,List.length_nil,Nat.reduceAdd,Nat.reduceSub,Array.replicate_succ,Array.replicate_zero,List.push_toArray,List.append_toArray,List.nil_append,List.cons_append]
 go_upto_region 1 with fail
 generalize (w.alloc (.cells #[.slice ra R.length rc,.slice (some ⟨lb,0,none⟩) Ls.length lc] 70)).alloc (.cells #[.slice none 0 0,.slice none 0 0] 70)=wr at *
 have NDS:Hid (∀V,Below wr.heap.size wr V→Calls Try.prog 70 #[dgV ra R.length rc lb Ls.length lc] V fun e w'=>e=.returned (.int .i64 nd)∧Below V.heap.size V w'):=fun V hV=>NDS0.out V _ (HD.out.below hV)
 have DW:Hid (∀V,Below wr.heap.size wr V→V.cell? ⟨w.heap.size,0,none⟩=some (.slice ra R.length rc)∧V.cell? ⟨w.heap.size,1,none⟩=some (.slice (some ⟨lb,0,none⟩) Ls.length lc)):=fun V y=>by
  have b:=(y.block _ (lt_of_obj B3.out)).trans B3.out
  exact⟨by rw[cell_of_row V _ _ _ _ _ b];rfl,by rw[cell_of_row V _ _ _ _ _ b];rfl⟩
 go_cut [7,8] from 11 to 16 (fun v7 v8 wx=>∃oa ob,v7=.pointer (some ⟨oa,0,none⟩)∧v8=.pointer (some ⟨ob,0,none⟩)∧Hid (wx.heap[oa]? =some (.cells #[.slice ra R.length rc,.slice (some ⟨lb,0,none⟩) Ls.length lc] 70 (0,0)))∧Hid (wx.heap[ob]? =some (.cells #[.int .i64 ls] 3 (0,0)))∧Hid (wr.heap.size≤oa∧wr.heap.size≤ob)∧Hid (Below wr.heap.size wr wx))
 case first=>
  have X0:Hid (Below wr.heap.size wr wr.drew):=(Below.refl _ wr).drew
  refine wp_calm ?_
  refine wp_unt (S:=fun V=>V.cell? ⟨w.heap.size,0,none⟩=some (.slice ra R.length rc)∧V.cell? ⟨w.heap.size,1,none⟩=some (.slice (some ⟨lb,0,none⟩) Ls.length lc)) 9 (by kernel_rfl) ?_
  generalize wr.drew=w0 at *
  have HS0:=hide (DW.out w0 X0.out)
  refine UntH.take (i:=0) (some 11) rfl rfl (by kernel_rfl) (by kernel_rfl) (by kernel_rfl) (by kernel_rfl) (fun _ _ _ _ h=>nomatch h.1) (by rfl) HS0.out ?_
  apply Exists.intro
  refine⟨fun w' hw'=>?_,?_⟩
  ·obtain⟨q0,q1⟩:=hw'
   go_simp
   first|done|rfl
  try simp only[Act.put,List.setIfInBounds_toArray,List.set_cons_zero,List.set_cons_succ]
  refine UntH.take (i:=1) (some 12) rfl rfl (by kernel_rfl) (by kernel_rfl) (by kernel_rfl) (by kernel_rfl) (fun _ _ _ _ h=>nomatch h.1) (by rfl) HS0.out ?_
  apply Exists.intro
  refine⟨fun w' hw'=>?_,?_⟩
  ·obtain⟨q0,q1⟩:=hw'
   go_simp
   first|done|rfl
  try simp only[Act.put,List.setIfInBounds_toArray,List.set_cons_zero,List.set_cons_succ]
  refine UntH.take (i:=3) (some 14) rfl rfl (by kernel_rfl) (by kernel_rfl) (by kernel_rfl) (by kernel_rfl) (fun _ _ _ _ h=>nomatch h.1) (by rfl) HS0.out ?_
  apply Exists.intro
  refine⟨fun w' hw'=>?_,?_⟩
  ·obtain⟨q0,q1⟩:=hw'
   go_simp
   first|done|rfl
  try simp only[Act.put,List.setIfInBounds_toArray,List.set_cons_zero,List.set_cons_succ]
  refine UntH.take (i:=4) (some 15) rfl rfl (by kernel_rfl) (by kernel_rfl) (by kernel_rfl) (by kernel_rfl) (fun _ _ _ _ h=>nomatch h.1) (by rfl) HS0.out ?_
  apply Exists.intro
  refine⟨fun w' hw'=>?_,?_⟩
  ·obtain⟨q0,q1⟩:=hw'
   go_simp
   first|done|rfl
  try simp only[Act.put,List.setIfInBounds_toArray,List.set_cons_zero,List.set_cons_succ]
  refine UntH.three (i:=2) (j:=6) (k:=7) (by kernel_rfl) rfl rfl rfl (fun K hK=>?_) (fun K hK=>?_) (fun K hK=>?_)
  ·go_simp
   refine(NDS.out w0 X0.out).mono ?_
   rintro en w1 ⟨rfl,x1⟩
   have X1:=hide (bt X0.out x1 (Nat.le_refl _))
   have HS1:=hide (DW.out _ X1.out)
   refine hK _ _ HS1.out ?_
   clear hK K x1
   try simp only[Act.put,List.setIfInBounds_toArray,List.set_cons_zero,List.set_cons_succ]
   refine UntH.take (i:=5) (some 16) rfl rfl (by kernel_rfl) (by kernel_rfl) (by kernel_rfl) (by kernel_rfl) (fun _ _ _ _ h=>nomatch h.1) (by rfl) HS1.out ?_
   apply Exists.intro
   refine⟨fun w' hw'=>?_,?_⟩
   ·obtain⟨q0,q1⟩:=hw'
    go_simp
    first|done|rfl
   try simp only[Act.put,List.setIfInBounds_toArray,List.set_cons_zero,List.set_cons_succ]
   refine UntH.two (i:=6) (j:=7) (by kernel_rfl) rfl rfl (fun K hK=>?_) (fun K hK=>?_)
   ·have y2:Below w1.heap.size w1 (w1.alloc (.cells #[.slice none 0 0,.slice none 0 0] 70)):=al (Below.refl _ _) _
    have X2:=hide (bt X1.out y2 (Nat.le_refl _))
    have HS2:=hide (DW.out _ X2.out)
    have B6_2:Hid ((w1.alloc (.cells #[.slice none 0 0,.slice none 0 0] 70)).heap[w1.heap.size]? =some (.cells #[.slice none 0 0,.slice none 0 0] 70 (0,0))):=heap_alloc_new w1 _
    go_simp
    refine hK _ _ HS2.out ?_
    clear hK K y2
    try simp only[Act.put,List.setIfInBounds_toArray,List.set_cons_zero,List.set_cons_succ]
    have Z6:Hid (wr.heap.size≤w1.heap.size):=X1.out.size
    generalize w1.alloc (.cells #[.slice none 0 0,.slice none 0 0] 70)=w2 at *
    generalize w1.heap.size=oa at *
    have y3:Below w2.heap.size w2 (w2.alloc (.cells #[.int .i64 0] 3)):=al (Below.refl _ _) _
    have X3:=hide (bt X2.out y3 (Nat.le_refl _))
    have HS3:=hide (DW.out _ X3.out)
    have B7_3:Hid ((w2.alloc (.cells #[.int .i64 0] 3)).heap[w2.heap.size]? =some (.cells #[.int .i64 0] 3 (0,0))):=heap_alloc_new w2 _
    have B6_3:Hid ((w2.alloc (.cells #[.int .i64 0] 3)).heap[oa]? =some (.cells #[.slice none 0 0,.slice none 0 0] 70 (0,0))):=(y3.block oa (lt_of_obj B6_2.out)).trans B6_2.out
    refine UntH.step (i:=7) (by kernel_rfl) rfl (fun K hK=>?_)
    go_simp
    refine hK _ _ HS3.out ?_
    clear hK K y3
    try simp only[Act.put,List.setIfInBounds_toArray,List.set_cons_zero,List.set_cons_succ]
    have Z7:Hid (wr.heap.size≤w2.heap.size):=X2.out.size
    generalize w2.alloc (.cells #[.int .i64 0] 3)=w3 at *
    generalize w2.heap.size=ob at *
    have s0:w3.cell? ⟨oa,0,none⟩=some (.slice none 0 0):=by rw[cell_of_row w3 _ _ _ _ _ B6_3.out];rfl
    have s1:w3.cell? ⟨oa,1,none⟩=some (.slice none 0 0):=by rw[cell_of_row w3 _ _ _ _ _ B6_3.out];rfl
    have g0:=frozen_of_row w3 oa 0 _ _ B6_3.out
    have g1:=frozen_of_row w3 oa 1 _ _ B6_3.out
    have k8:Kept (fun z=>z=oa) w3 ((w3.setCell ⟨oa,0,none⟩ (.slice ra R.length rc)).setCell ⟨oa,1,none⟩ (.slice (some ⟨lb,0,none⟩) Ls.length lc)):=((Kept.refl (fun z=>z=oa) w3).setCell (p:=⟨oa,0,none⟩) rfl _).setCell (p:=⟨oa,1,none⟩) rfl _
    have X8:=hide (X3.out.trans (k8.below X3.out.size (fun z hz=>by rw[hz];exact Z6.out)))
    have HS8:=hide (DW.out _ X8.out)
    have A8:Hid (((w3.setCell ⟨oa,0,none⟩ (.slice ra R.length rc)).setCell ⟨oa,1,none⟩ (.slice (some ⟨lb,0,none⟩) Ls.length lc)).heap[oa]? =some (.cells #[.slice ra R.length rc,.slice (some ⟨lb,0,none⟩) Ls.length lc] 70 (0,0))):=by
     have:=block_setCell (block_setCell B6_3.out 0 (.slice ra R.length rc)) 1 (.slice (some ⟨lb,0,none⟩) Ls.length lc)
     simpa [Hid] using this
    have L8:Hid (((w3.setCell ⟨oa,0,none⟩ (.slice ra R.length rc)).setCell ⟨oa,1,none⟩ (.slice (some ⟨lb,0,none⟩) Ls.length lc)).heap[ob]? =some (.cells #[.int .i64 0] 3 (0,0))):=(k8.block ob (lt_of_obj B7_3.out) (fun e=>ty_ne B7_3.out B6_3.out (by decide) e)).trans B7_3.out
    refine UntH.step (i:=8) (by kernel_rfl) rfl (fun K hK=>?_)
    go_simp
    refine hK _ _ HS8.out ?_
    clear hK K s0 s1 g0 g1 k8
    try simp only[Act.put,List.setIfInBounds_toArray,List.set_cons_zero,List.set_cons_succ]
    generalize ((w3.setCell ⟨oa,0,none⟩ (.slice ra R.length rc)).setCell ⟨oa,1,none⟩ (.slice (some ⟨lb,0,none⟩) Ls.length lc))=w8 at *
    have s0:w8.cell? ⟨ob,0,none⟩=some (.int .i64 0):=by rw[cell_of_row w8 _ _ _ _ _ L8.out];rfl
    have g0:=frozen_of_row w8 ob 0 _ _ L8.out
    refine UntH.last (by kernel_rfl) rfl (by kernel_rfl) (by kernel_rfl) (fun K hK=>?_)
    go_simp
    refine hK _ _ ⟨rfl,?_⟩
    clear hK K s0 g0
    go_wp2
    go_meet
    have k9:Kept (fun z=>z=ob) w8 (w8.setCell ⟨ob,0,none⟩ (.int .i64 ls)):=(Kept.refl (fun z=>z=ob) w8).setCell (p:=⟨ob,0,none⟩) rfl _
    refine⟨oa,ob,rfl,rfl,hide ((k9.block oa (lt_of_obj A8.out) (fun e=>ty_ne A8.out L8.out (by decide) e)).trans A8.out),?_,hide ⟨Z6.out,Z7.out⟩,hide (X8.out.trans (k9.below X8.out.size (fun z hz=>by rw[hz];exact Z7.out)))⟩
    have:=block_setCell L8.out 0 (.int .i64 ls)
    simpa [Hid] using this
   ·have y2:Below w1.heap.size w1 (w1.alloc (.cells #[.int .i64 0] 3)):=al (Below.refl _ _) _
    have X2:=hide (bt X1.out y2 (Nat.le_refl _))
    have HS2:=hide (DW.out _ X2.out)
    have B7_2:Hid ((w1.alloc (.cells #[.int .i64 0] 3)).heap[w1.heap.size]? =some (.cells #[.int .i64 0] 3 (0,0))):=heap_alloc_new w1 _
    go_simp
    refine hK _ _ HS2.out ?_
    clear hK K y2
    try simp only[Act.put,List.setIfInBounds_toArray,List.set_cons_zero,List.set_cons_succ]
    have Z7:Hid (wr.heap.size≤w1.heap.size):=X1.out.size
    generalize w1.alloc (.cells #[.int .i64 0] 3)=w2 at *
    generalize w1.heap.size=ob at *
    have y3:Below w2.heap.size w2 (w2.alloc (.cells #[.slice none 0 0,.slice none 0 0] 70)):=al (Below.refl _ _) _
    have X3:=hide (bt X2.out y3 (Nat.le_refl _))
    have HS3:=hide (DW.out _ X3.out)
    have B6_3:Hid ((w2.alloc (.cells #[.slice none 0 0,.slice none 0 0] 70)).heap[w2.heap.size]? =some (.cells #[.slice none 0 0,.slice none 0 0] 70 (0,0))):=heap_alloc_new w2 _
    have B7_3:Hid ((w2.alloc (.cells #[.slice none 0 0,.slice none 0 0] 70)).heap[ob]? =some (.cells #[.int .i64 0] 3 (0,0))):=(y3.block ob (lt_of_obj B7_2.out)).trans B7_2.out
    refine UntH.step (i:=6) (by kernel_rfl) rfl (fun K hK=>?_)
    go_simp
    refine hK _ _ HS3.out ?_
    clear hK K y3
    try simp only[Act.put,List.setIfInBounds_toArray,List.set_cons_zero,List.set_cons_succ]
    have Z6:Hid (wr.heap.size≤w2.heap.size):=X2.out.size
    generalize w2.alloc (.cells #[.slice none 0 0,.slice none 0 0] 70)=w3 at *
    generalize w2.heap.size=oa at *
    have s0:w3.cell? ⟨oa,0,none⟩=some (.slice none 0 0):=by rw[cell_of_row w3 _ _ _ _ _ B6_3.out];rfl
    have s1:w3.cell? ⟨oa,1,none⟩=some (.slice none 0 0):=by rw[cell_of_row w3 _ _ _ _ _ B6_3.out];rfl
    have g0:=frozen_of_row w3 oa 0 _ _ B6_3.out
    have g1:=frozen_of_row w3 oa 1 _ _ B6_3.out
    have k8:Kept (fun z=>z=oa) w3 ((w3.setCell ⟨oa,0,none⟩ (.slice ra R.length rc)).setCell ⟨oa,1,none⟩ (.slice (some ⟨lb,0,none⟩) Ls.length lc)):=((Kept.refl (fun z=>z=oa) w3).setCell (p:=⟨oa,0,none⟩) rfl _).setCell (p:=⟨oa,1,none⟩) rfl _
    have X8:=hide (X3.out.trans (k8.below X3.out.size (fun z hz=>by rw[hz];exact Z6.out)))
    have HS8:=hide (DW.out _ X8.out)
    have A8:Hid (((w3.setCell ⟨oa,0,none⟩ (.slice ra R.length rc)).setCell ⟨oa,1,none⟩ (.slice (some ⟨lb,0,none⟩) Ls.length lc)).heap[oa]? =some (.cells #[.slice ra R.length rc,.slice (some ⟨lb,0,none⟩) Ls.length lc] 70 (0,0))):=by
     have:=block_setCell (block_setCell B6_3.out 0 (.slice ra R.length rc)) 1 (.slice (some ⟨lb,0,none⟩) Ls.length lc)
     simpa [Hid] using this
    have L8:Hid (((w3.setCell ⟨oa,0,none⟩ (.slice ra R.length rc)).setCell ⟨oa,1,none⟩ (.slice (some ⟨lb,0,none⟩) Ls.length lc)).heap[ob]? =some (.cells #[.int .i64 0] 3 (0,0))):=(k8.block ob (lt_of_obj B7_3.out) (fun e=>ty_ne B7_3.out B6_3.out (by decide) e)).trans B7_3.out
    refine UntH.step (i:=8) (by kernel_rfl) rfl (fun K hK=>?_)
    go_simp
    refine hK _ _ HS8.out ?_
    clear hK K s0 s1 g0 g1 k8
    try simp only[Act.put,List.setIfInBounds_toArray,List.set_cons_zero,List.set_cons_succ]
    generalize ((w3.setCell ⟨oa,0,none⟩ (.slice ra R.length rc)).setCell ⟨oa,1,none⟩ (.slice (some ⟨lb,0,none⟩) Ls.length lc))=w8 at *
    have s0:w8.cell? ⟨ob,0,none⟩=some (.int .i64 0):=by rw[cell_of_row w8 _ _ _ _ _ L8.out];rfl
    have g0:=frozen_of_row w8 ob 0 _ _ L8.out
    refine UntH.last (by kernel_rfl) rfl (by kernel_rfl) (by kernel_rfl) (fun K hK=>?_)
    go_simp
    refine hK _ _ ⟨rfl,?_⟩
    clear hK K s0 g0
    go_wp2
    go_meet
    have k9:Kept (fun z=>z=ob) w8 (w8.setCell ⟨ob,0,none⟩ (.int .i64 ls)):=(Kept.refl (fun z=>z=ob) w8).setCell (p:=⟨ob,0,none⟩) rfl _
    refine⟨oa,ob,rfl,rfl,hide ((k9.block oa (lt_of_obj A8.out) (fun e=>ty_ne A8.out L8.out (by decide) e)).trans A8.out),?_,hide ⟨Z6.out,Z7.out⟩,hide (X8.out.trans (k9.below X8.out.size (fun z hz=>by rw[hz];exact Z7.out)))⟩
    have:=block_setCell L8.out 0 (.int .i64 ls)
    simpa [Hid] using this
  ·have y1:Below w0.heap.size w0 (w0.alloc (.cells #[.slice none 0 0,.slice none 0 0] 70)):=al (Below.refl _ _) _
   have X1:=hide (bt X0.out y1 (Nat.le_refl _))
   have HS1:=hide (DW.out _ X1.out)
   have B6_1:Hid ((w0.alloc (.cells #[.slice none 0 0,.slice none 0 0] 70)).heap[w0.heap.size]? =some (.cells #[.slice none 0 0,.slice none 0 0] 70 (0,0))):=heap_alloc_new w0 _
   go_simp
   refine hK _ _ HS1.out ?_
   clear hK K y1
   try simp only[Act.put,List.setIfInBounds_toArray,List.set_cons_zero,List.set_cons_succ]
   have Z6:Hid (wr.heap.size≤w0.heap.size):=X0.out.size
   generalize w0.alloc (.cells #[.slice none 0 0,.slice none 0 0] 70)=w1 at *
   generalize w0.heap.size=oa at *
   refine UntH.two (i:=2) (j:=7) (by kernel_rfl) rfl rfl (fun K hK=>?_) (fun K hK=>?_)
   ·go_simp
    refine(NDS.out w1 X1.out).mono ?_
    rintro en w2 ⟨rfl,x2⟩
    have X2:=hide (bt X1.out x2 (Nat.le_refl _))
    have HS2:=hide (DW.out _ X2.out)
    have B6_2:Hid (w2.heap[oa]? =some (.cells #[.slice none 0 0,.slice none 0 0] 70 (0,0))):=(x2.block oa (lt_of_obj B6_1.out)).trans B6_1.out
    refine hK _ _ HS2.out ?_
    clear hK K x2
    try simp only[Act.put,List.setIfInBounds_toArray,List.set_cons_zero,List.set_cons_succ]
    refine UntH.take (i:=5) (some 16) rfl rfl (by kernel_rfl) (by kernel_rfl) (by kernel_rfl) (by kernel_rfl) (fun _ _ _ _ h=>nomatch h.1) (by rfl) HS2.out ?_
    apply Exists.intro
    refine⟨fun w' hw'=>?_,?_⟩
    ·obtain⟨q0,q1⟩:=hw'
     go_simp
     first|done|rfl
    try simp only[Act.put,List.setIfInBounds_toArray,List.set_cons_zero,List.set_cons_succ]
    have y3:Below w2.heap.size w2 (w2.alloc (.cells #[.int .i64 0] 3)):=al (Below.refl _ _) _
    have X3:=hide (bt X2.out y3 (Nat.le_refl _))
    have HS3:=hide (DW.out _ X3.out)
    have B7_3:Hid ((w2.alloc (.cells #[.int .i64 0] 3)).heap[w2.heap.size]? =some (.cells #[.int .i64 0] 3 (0,0))):=heap_alloc_new w2 _
    have B6_3:Hid ((w2.alloc (.cells #[.int .i64 0] 3)).heap[oa]? =some (.cells #[.slice none 0 0,.slice none 0 0] 70 (0,0))):=(y3.block oa (lt_of_obj B6_2.out)).trans B6_2.out
    refine UntH.step (i:=7) (by kernel_rfl) rfl (fun K hK=>?_)
    go_simp
    refine hK _ _ HS3.out ?_
    clear hK K y3
    try simp only[Act.put,List.setIfInBounds_toArray,List.set_cons_zero,List.set_cons_succ]
    have Z7:Hid (wr.heap.size≤w2.heap.size):=X2.out.size
    generalize w2.alloc (.cells #[.int .i64 0] 3)=w3 at *
    generalize w2.heap.size=ob at *
    have s0:w3.cell? ⟨oa,0,none⟩=some (.slice none 0 0):=by rw[cell_of_row w3 _ _ _ _ _ B6_3.out];rfl
    have s1:w3.cell? ⟨oa,1,none⟩=some (.slice none 0 0):=by rw[cell_of_row w3 _ _ _ _ _ B6_3.out];rfl
    have g0:=frozen_of_row w3 oa 0 _ _ B6_3.out
    have g1:=frozen_of_row w3 oa 1 _ _ B6_3.out
    have k8:Kept (fun z=>z=oa) w3 ((w3.setCell ⟨oa,0,none⟩ (.slice ra R.length rc)).setCell ⟨oa,1,none⟩ (.slice (some ⟨lb,0,none⟩) Ls.length lc)):=((Kept.refl (fun z=>z=oa) w3).setCell (p:=⟨oa,0,none⟩) rfl _).setCell (p:=⟨oa,1,none⟩) rfl _
    have X8:=hide (X3.out.trans (k8.below X3.out.size (fun z hz=>by rw[hz];exact Z6.out)))
    have HS8:=hide (DW.out _ X8.out)
    have A8:Hid (((w3.setCell ⟨oa,0,none⟩ (.slice ra R.length rc)).setCell ⟨oa,1,none⟩ (.slice (some ⟨lb,0,none⟩) Ls.length lc)).heap[oa]? =some (.cells #[.slice ra R.length rc,.slice (some ⟨lb,0,none⟩) Ls.length lc] 70 (0,0))):=by
     have:=block_setCell (block_setCell B6_3.out 0 (.slice ra R.length rc)) 1 (.slice (some ⟨lb,0,none⟩) Ls.length lc)
     simpa [Hid] using this
    have L8:Hid (((w3.setCell ⟨oa,0,none⟩ (.slice ra R.length rc)).setCell ⟨oa,1,none⟩ (.slice (some ⟨lb,0,none⟩) Ls.length lc)).heap[ob]? =some (.cells #[.int .i64 0] 3 (0,0))):=(k8.block ob (lt_of_obj B7_3.out) (fun e=>ty_ne B7_3.out B6_3.out (by decide) e)).trans B7_3.out
    refine UntH.step (i:=8) (by kernel_rfl) rfl (fun K hK=>?_)
    go_simp
    refine hK _ _ HS8.out ?_
    clear hK K s0 s1 g0 g1 k8
    try simp only[Act.put,List.setIfInBounds_toArray,List.set_cons_zero,List.set_cons_succ]
    generalize ((w3.setCell ⟨oa,0,none⟩ (.slice ra R.length rc)).setCell ⟨oa,1,none⟩ (.slice (some ⟨lb,0,none⟩) Ls.length lc))=w8 at *
    have s0:w8.cell? ⟨ob,0,none⟩=some (.int .i64 0):=by rw[cell_of_row w8 _ _ _ _ _ L8.out];rfl
    have g0:=frozen_of_row w8 ob 0 _ _ L8.out
    refine UntH.last (by kernel_rfl) rfl (by kernel_rfl) (by kernel_rfl) (fun K hK=>?_)
    go_simp
    refine hK _ _ ⟨rfl,?_⟩
    clear hK K s0 g0
    go_wp2
    go_meet
    have k9:Kept (fun z=>z=ob) w8 (w8.setCell ⟨ob,0,none⟩ (.int .i64 ls)):=(Kept.refl (fun z=>z=ob) w8).setCell (p:=⟨ob,0,none⟩) rfl _
    refine⟨oa,ob,rfl,rfl,hide ((k9.block oa (lt_of_obj A8.out) (fun e=>ty_ne A8.out L8.out (by decide) e)).trans A8.out),?_,hide ⟨Z6.out,Z7.out⟩,hide (X8.out.trans (k9.below X8.out.size (fun z hz=>by rw[hz];exact Z7.out)))⟩
    have:=block_setCell L8.out 0 (.int .i64 ls)
    simpa [Hid] using this
   ·have y2:Below w1.heap.size w1 (w1.alloc (.cells #[.int .i64 0] 3)):=al (Below.refl _ _) _
    have X2:=hide (bt X1.out y2 (Nat.le_refl _))
    have HS2:=hide (DW.out _ X2.out)
    have B7_2:Hid ((w1.alloc (.cells #[.int .i64 0] 3)).heap[w1.heap.size]? =some (.cells #[.int .i64 0] 3 (0,0))):=heap_alloc_new w1 _
    have B6_2:Hid ((w1.alloc (.cells #[.int .i64 0] 3)).heap[oa]? =some (.cells #[.slice none 0 0,.slice none 0 0] 70 (0,0))):=(y2.block oa (lt_of_obj B6_1.out)).trans B6_1.out
    go_simp
    refine hK _ _ HS2.out ?_
    clear hK K y2
    try simp only[Act.put,List.setIfInBounds_toArray,List.set_cons_zero,List.set_cons_succ]
    have Z7:Hid (wr.heap.size≤w1.heap.size):=X1.out.size
    generalize w1.alloc (.cells #[.int .i64 0] 3)=w2 at *
    generalize w1.heap.size=ob at *
    refine UntH.step (i:=2) (by kernel_rfl) rfl (fun K hK=>?_)
    go_simp
    refine(NDS.out w2 X2.out).mono ?_
    rintro en w3 ⟨rfl,x3⟩
    have X3:=hide (bt X2.out x3 (Nat.le_refl _))
    have HS3:=hide (DW.out _ X3.out)
    have B6_3:Hid (w3.heap[oa]? =some (.cells #[.slice none 0 0,.slice none 0 0] 70 (0,0))):=(x3.block oa (lt_of_obj B6_2.out)).trans B6_2.out
    have B7_3:Hid (w3.heap[ob]? =some (.cells #[.int .i64 0] 3 (0,0))):=(x3.block ob (lt_of_obj B7_2.out)).trans B7_2.out
    refine hK _ _ HS3.out ?_
    clear hK K x3
    try simp only[Act.put,List.setIfInBounds_toArray,List.set_cons_zero,List.set_cons_succ]
    refine UntH.take (i:=5) (some 16) rfl rfl (by kernel_rfl) (by kernel_rfl) (by kernel_rfl) (by kernel_rfl) (fun _ _ _ _ h=>nomatch h.1) (by rfl) HS3.out ?_
    apply Exists.intro
    refine⟨fun w' hw'=>?_,?_⟩
    ·obtain⟨q0,q1⟩:=hw'
     go_simp
     first|done|rfl
    try simp only[Act.put,List.setIfInBounds_toArray,List.set_cons_zero,List.set_cons_succ]
    have s0:w3.cell? ⟨oa,0,none⟩=some (.slice none 0 0):=by rw[cell_of_row w3 _ _ _ _ _ B6_3.out];rfl
    have s1:w3.cell? ⟨oa,1,none⟩=some (.slice none 0 0):=by rw[cell_of_row w3 _ _ _ _ _ B6_3.out];rfl
    have g0:=frozen_of_row w3 oa 0 _ _ B6_3.out
    have g1:=frozen_of_row w3 oa 1 _ _ B6_3.out
    have k8:Kept (fun z=>z=oa) w3 ((w3.setCell ⟨oa,0,none⟩ (.slice ra R.length rc)).setCell ⟨oa,1,none⟩ (.slice (some ⟨lb,0,none⟩) Ls.length lc)):=((Kept.refl (fun z=>z=oa) w3).setCell (p:=⟨oa,0,none⟩) rfl _).setCell (p:=⟨oa,1,none⟩) rfl _
    have X8:=hide (X3.out.trans (k8.below X3.out.size (fun z hz=>by rw[hz];exact Z6.out)))
    have HS8:=hide (DW.out _ X8.out)
    have A8:Hid (((w3.setCell ⟨oa,0,none⟩ (.slice ra R.length rc)).setCell ⟨oa,1,none⟩ (.slice (some ⟨lb,0,none⟩) Ls.length lc)).heap[oa]? =some (.cells #[.slice ra R.length rc,.slice (some ⟨lb,0,none⟩) Ls.length lc] 70 (0,0))):=by
     have:=block_setCell (block_setCell B6_3.out 0 (.slice ra R.length rc)) 1 (.slice (some ⟨lb,0,none⟩) Ls.length lc)
     simpa [Hid] using this
    have L8:Hid (((w3.setCell ⟨oa,0,none⟩ (.slice ra R.length rc)).setCell ⟨oa,1,none⟩ (.slice (some ⟨lb,0,none⟩) Ls.length lc)).heap[ob]? =some (.cells #[.int .i64 0] 3 (0,0))):=(k8.block ob (lt_of_obj B7_3.out) (fun e=>ty_ne B7_3.out B6_3.out (by decide) e)).trans B7_3.out
    refine UntH.step (i:=8) (by kernel_rfl) rfl (fun K hK=>?_)
    go_simp
    refine hK _ _ HS8.out ?_
    clear hK K s0 s1 g0 g1 k8
    try simp only[Act.put,List.setIfInBounds_toArray,List.set_cons_zero,List.set_cons_succ]
    generalize ((w3.setCell ⟨oa,0,none⟩ (.slice ra R.length rc)).setCell ⟨oa,1,none⟩ (.slice (some ⟨lb,0,none⟩) Ls.length lc))=w8 at *
    have s0:w8.cell? ⟨ob,0,none⟩=some (.int .i64 0):=by rw[cell_of_row w8 _ _ _ _ _ L8.out];rfl
    have g0:=frozen_of_row w8 ob 0 _ _ L8.out
    refine UntH.last (by kernel_rfl) rfl (by kernel_rfl) (by kernel_rfl) (fun K hK=>?_)
    go_simp
    refine hK _ _ ⟨rfl,?_⟩
    clear hK K s0 g0
    go_wp2
    go_meet
    have k9:Kept (fun z=>z=ob) w8 (w8.setCell ⟨ob,0,none⟩ (.int .i64 ls)):=(Kept.refl (fun z=>z=ob) w8).setCell (p:=⟨ob,0,none⟩) rfl _
    refine⟨oa,ob,rfl,rfl,hide ((k9.block oa (lt_of_obj A8.out) (fun e=>ty_ne A8.out L8.out (by decide) e)).trans A8.out),?_,hide ⟨Z6.out,Z7.out⟩,hide (X8.out.trans (k9.below X8.out.size (fun z hz=>by rw[hz];exact Z7.out)))⟩
    have:=block_setCell L8.out 0 (.int .i64 ls)
    simpa [Hid] using this
  ·have y1:Below w0.heap.size w0 (w0.alloc (.cells #[.int .i64 0] 3)):=al (Below.refl _ _) _
   have X1:=hide (bt X0.out y1 (Nat.le_refl _))
   have HS1:=hide (DW.out _ X1.out)
   have B7_1:Hid ((w0.alloc (.cells #[.int .i64 0] 3)).heap[w0.heap.size]? =some (.cells #[.int .i64 0] 3 (0,0))):=heap_alloc_new w0 _
   go_simp
   refine hK _ _ HS1.out ?_
   clear hK K y1
   try simp only[Act.put,List.setIfInBounds_toArray,List.set_cons_zero,List.set_cons_succ]
   have Z7:Hid (wr.heap.size≤w0.heap.size):=X0.out.size
   generalize w0.alloc (.cells #[.int .i64 0] 3)=w1 at *
   generalize w0.heap.size=ob at *
   refine UntH.two (i:=2) (j:=6) (by kernel_rfl) rfl rfl (fun K hK=>?_) (fun K hK=>?_)
   ·go_simp
    refine(NDS.out w1 X1.out).mono ?_
    rintro en w2 ⟨rfl,x2⟩
    have X2:=hide (bt X1.out x2 (Nat.le_refl _))
    have HS2:=hide (DW.out _ X2.out)
    have B7_2:Hid (w2.heap[ob]? =some (.cells #[.int .i64 0] 3 (0,0))):=(x2.block ob (lt_of_obj B7_1.out)).trans B7_1.out
    refine hK _ _ HS2.out ?_
    clear hK K x2
    try simp only[Act.put,List.setIfInBounds_toArray,List.set_cons_zero,List.set_cons_succ]
    refine UntH.take (i:=5) (some 16) rfl rfl (by kernel_rfl) (by kernel_rfl) (by kernel_rfl) (by kernel_rfl) (fun _ _ _ _ h=>nomatch h.1) (by rfl) HS2.out ?_
    apply Exists.intro
    refine⟨fun w' hw'=>?_,?_⟩
    ·obtain⟨q0,q1⟩:=hw'
     go_simp
     first|done|rfl
    try simp only[Act.put,List.setIfInBounds_toArray,List.set_cons_zero,List.set_cons_succ]
    have y3:Below w2.heap.size w2 (w2.alloc (.cells #[.slice none 0 0,.slice none 0 0] 70)):=al (Below.refl _ _) _
    have X3:=hide (bt X2.out y3 (Nat.le_refl _))
    have HS3:=hide (DW.out _ X3.out)
    have B6_3:Hid ((w2.alloc (.cells #[.slice none 0 0,.slice none 0 0] 70)).heap[w2.heap.size]? =some (.cells #[.slice none 0 0,.slice none 0 0] 70 (0,0))):=heap_alloc_new w2 _
    have B7_3:Hid ((w2.alloc (.cells #[.slice none 0 0,.slice none 0 0] 70)).heap[ob]? =some (.cells #[.int .i64 0] 3 (0,0))):=(y3.block ob (lt_of_obj B7_2.out)).trans B7_2.out
    refine UntH.step (i:=6) (by kernel_rfl) rfl (fun K hK=>?_)
    go_simp
    refine hK _ _ HS3.out ?_
    clear hK K y3
    try simp only[Act.put,List.setIfInBounds_toArray,List.set_cons_zero,List.set_cons_succ]
    have Z6:Hid (wr.heap.size≤w2.heap.size):=X2.out.size
    generalize w2.alloc (.cells #[.slice none 0 0,.slice none 0 0] 70)=w3 at *
    generalize w2.heap.size=oa at *
    have s0:w3.cell? ⟨oa,0,none⟩=some (.slice none 0 0):=by rw[cell_of_row w3 _ _ _ _ _ B6_3.out];rfl
    have s1:w3.cell? ⟨oa,1,none⟩=some (.slice none 0 0):=by rw[cell_of_row w3 _ _ _ _ _ B6_3.out];rfl
    have g0:=frozen_of_row w3 oa 0 _ _ B6_3.out
    have g1:=frozen_of_row w3 oa 1 _ _ B6_3.out
    have k8:Kept (fun z=>z=oa) w3 ((w3.setCell ⟨oa,0,none⟩ (.slice ra R.length rc)).setCell ⟨oa,1,none⟩ (.slice (some ⟨lb,0,none⟩) Ls.length lc)):=((Kept.refl (fun z=>z=oa) w3).setCell (p:=⟨oa,0,none⟩) rfl _).setCell (p:=⟨oa,1,none⟩) rfl _
    have X8:=hide (X3.out.trans (k8.below X3.out.size (fun z hz=>by rw[hz];exact Z6.out)))
    have HS8:=hide (DW.out _ X8.out)
    have A8:Hid (((w3.setCell ⟨oa,0,none⟩ (.slice ra R.length rc)).setCell ⟨oa,1,none⟩ (.slice (some ⟨lb,0,none⟩) Ls.length lc)).heap[oa]? =some (.cells #[.slice ra R.length rc,.slice (some ⟨lb,0,none⟩) Ls.length lc] 70 (0,0))):=by
     have:=block_setCell (block_setCell B6_3.out 0 (.slice ra R.length rc)) 1 (.slice (some ⟨lb,0,none⟩) Ls.length lc)
     simpa [Hid] using this
    have L8:Hid (((w3.setCell ⟨oa,0,none⟩ (.slice ra R.length rc)).setCell ⟨oa,1,none⟩ (.slice (some ⟨lb,0,none⟩) Ls.length lc)).heap[ob]? =some (.cells #[.int .i64 0] 3 (0,0))):=(k8.block ob (lt_of_obj B7_3.out) (fun e=>ty_ne B7_3.out B6_3.out (by decide) e)).trans B7_3.out
    refine UntH.step (i:=8) (by kernel_rfl) rfl (fun K hK=>?_)
    go_simp
    refine hK _ _ HS8.out ?_
    clear hK K s0 s1 g0 g1 k8
    try simp only[Act.put,List.setIfInBounds_toArray,List.set_cons_zero,List.set_cons_succ]
    generalize ((w3.setCell ⟨oa,0,none⟩ (.slice ra R.length rc)).setCell ⟨oa,1,none⟩ (.slice (some ⟨lb,0,none⟩) Ls.length lc))=w8 at *
    have s0:w8.cell? ⟨ob,0,none⟩=some (.int .i64 0):=by rw[cell_of_row w8 _ _ _ _ _ L8.out];rfl
    have g0:=frozen_of_row w8 ob 0 _ _ L8.out
    refine UntH.last (by kernel_rfl) rfl (by kernel_rfl) (by kernel_rfl) (fun K hK=>?_)
    go_simp
    refine hK _ _ ⟨rfl,?_⟩
    clear hK K s0 g0
    go_wp2
    go_meet
    have k9:Kept (fun z=>z=ob) w8 (w8.setCell ⟨ob,0,none⟩ (.int .i64 ls)):=(Kept.refl (fun z=>z=ob) w8).setCell (p:=⟨ob,0,none⟩) rfl _
    refine⟨oa,ob,rfl,rfl,hide ((k9.block oa (lt_of_obj A8.out) (fun e=>ty_ne A8.out L8.out (by decide) e)).trans A8.out),?_,hide ⟨Z6.out,Z7.out⟩,hide (X8.out.trans (k9.below X8.out.size (fun z hz=>by rw[hz];exact Z7.out)))⟩
    have:=block_setCell L8.out 0 (.int .i64 ls)
    simpa [Hid] using this
   ·have y2:Below w1.heap.size w1 (w1.alloc (.cells #[.slice none 0 0,.slice none 0 0] 70)):=al (Below.refl _ _) _
    have X2:=hide (bt X1.out y2 (Nat.le_refl _))
    have HS2:=hide (DW.out _ X2.out)
    have B6_2:Hid ((w1.alloc (.cells #[.slice none 0 0,.slice none 0 0] 70)).heap[w1.heap.size]? =some (.cells #[.slice none 0 0,.slice none 0 0] 70 (0,0))):=heap_alloc_new w1 _
    have B7_2:Hid ((w1.alloc (.cells #[.slice none 0 0,.slice none 0 0] 70)).heap[ob]? =some (.cells #[.int .i64 0] 3 (0,0))):=(y2.block ob (lt_of_obj B7_1.out)).trans B7_1.out
    go_simp
    refine hK _ _ HS2.out ?_
    clear hK K y2
    try simp only[Act.put,List.setIfInBounds_toArray,List.set_cons_zero,List.set_cons_succ]
    have Z6:Hid (wr.heap.size≤w1.heap.size):=X1.out.size
    generalize w1.alloc (.cells #[.slice none 0 0,.slice none 0 0] 70)=w2 at *
    generalize w1.heap.size=oa at *
    refine UntH.step (i:=2) (by kernel_rfl) rfl (fun K hK=>?_)
    go_simp
    refine(NDS.out w2 X2.out).mono ?_
    rintro en w3 ⟨rfl,x3⟩
    have X3:=hide (bt X2.out x3 (Nat.le_refl _))
    have HS3:=hide (DW.out _ X3.out)
    have B7_3:Hid (w3.heap[ob]? =some (.cells #[.int .i64 0] 3 (0,0))):=(x3.block ob (lt_of_obj B7_2.out)).trans B7_2.out
    have B6_3:Hid (w3.heap[oa]? =some (.cells #[.slice none 0 0,.slice none 0 0] 70 (0,0))):=(x3.block oa (lt_of_obj B6_2.out)).trans B6_2.out
    refine hK _ _ HS3.out ?_
    clear hK K x3
    try simp only[Act.put,List.setIfInBounds_toArray,List.set_cons_zero,List.set_cons_succ]
    refine UntH.take (i:=5) (some 16) rfl rfl (by kernel_rfl) (by kernel_rfl) (by kernel_rfl) (by kernel_rfl) (fun _ _ _ _ h=>nomatch h.1) (by rfl) HS3.out ?_
    apply Exists.intro
    refine⟨fun w' hw'=>?_,?_⟩
    ·obtain⟨q0,q1⟩:=hw'
     go_simp
     first|done|rfl
    try simp only[Act.put,List.setIfInBounds_toArray,List.set_cons_zero,List.set_cons_succ]
    have s0:w3.cell? ⟨oa,0,none⟩=some (.slice none 0 0):=by rw[cell_of_row w3 _ _ _ _ _ B6_3.out];rfl
    have s1:w3.cell? ⟨oa,1,none⟩=some (.slice none 0 0):=by rw[cell_of_row w3 _ _ _ _ _ B6_3.out];rfl
    have g0:=frozen_of_row w3 oa 0 _ _ B6_3.out
    have g1:=frozen_of_row w3 oa 1 _ _ B6_3.out
    have k8:Kept (fun z=>z=oa) w3 ((w3.setCell ⟨oa,0,none⟩ (.slice ra R.length rc)).setCell ⟨oa,1,none⟩ (.slice (some ⟨lb,0,none⟩) Ls.length lc)):=((Kept.refl (fun z=>z=oa) w3).setCell (p:=⟨oa,0,none⟩) rfl _).setCell (p:=⟨oa,1,none⟩) rfl _
    have X8:=hide (X3.out.trans (k8.below X3.out.size (fun z hz=>by rw[hz];exact Z6.out)))
    have HS8:=hide (DW.out _ X8.out)
    have A8:Hid (((w3.setCell ⟨oa,0,none⟩ (.slice ra R.length rc)).setCell ⟨oa,1,none⟩ (.slice (some ⟨lb,0,none⟩) Ls.length lc)).heap[oa]? =some (.cells #[.slice ra R.length rc,.slice (some ⟨lb,0,none⟩) Ls.length lc] 70 (0,0))):=by
     have:=block_setCell (block_setCell B6_3.out 0 (.slice ra R.length rc)) 1 (.slice (some ⟨lb,0,none⟩) Ls.length lc)
     simpa [Hid] using this
    have L8:Hid (((w3.setCell ⟨oa,0,none⟩ (.slice ra R.length rc)).setCell ⟨oa,1,none⟩ (.slice (some ⟨lb,0,none⟩) Ls.length lc)).heap[ob]? =some (.cells #[.int .i64 0] 3 (0,0))):=(k8.block ob (lt_of_obj B7_3.out) (fun e=>ty_ne B7_3.out B6_3.out (by decide) e)).trans B7_3.out
    refine UntH.step (i:=8) (by kernel_rfl) rfl (fun K hK=>?_)
    go_simp
    refine hK _ _ HS8.out ?_
    clear hK K s0 s1 g0 g1 k8
    try simp only[Act.put,List.setIfInBounds_toArray,List.set_cons_zero,List.set_cons_succ]
    generalize ((w3.setCell ⟨oa,0,none⟩ (.slice ra R.length rc)).setCell ⟨oa,1,none⟩ (.slice (some ⟨lb,0,none⟩) Ls.length lc))=w8 at *
    have s0:w8.cell? ⟨ob,0,none⟩=some (.int .i64 0):=by rw[cell_of_row w8 _ _ _ _ _ L8.out];rfl
    have g0:=frozen_of_row w8 ob 0 _ _ L8.out
    refine UntH.last (by kernel_rfl) rfl (by kernel_rfl) (by kernel_rfl) (fun K hK=>?_)
    go_simp
    refine hK _ _ ⟨rfl,?_⟩
    clear hK K s0 g0
    go_wp2
    go_meet
    have k9:Kept (fun z=>z=ob) w8 (w8.setCell ⟨ob,0,none⟩ (.int .i64 ls)):=(Kept.refl (fun z=>z=ob) w8).setCell (p:=⟨ob,0,none⟩) rfl _
    refine⟨oa,ob,rfl,rfl,hide ((k9.block oa (lt_of_obj A8.out) (fun e=>ty_ne A8.out L8.out (by decide) e)).trans A8.out),?_,hide ⟨Z6.out,Z7.out⟩,hide (X8.out.trans (k9.below X8.out.size (fun z hz=>by rw[hz];exact Z7.out)))⟩
    have:=block_setCell L8.out 0 (.int .i64 ls)
    simpa [Hid] using this
 obtain⟨oa,ob,rfl,rfl,BA,BB,ZZ,XC⟩:=hcut
 obtain⟨c1,c2⟩:=DW.out wc XC.out
 have c3:wc.cell? ⟨ob,0,none⟩=some (.int .i64 ls):=by rw[cell_of_row wc _ _ _ _ _ BB.out];rfl
 have DC:=hide ((HD.out.below XC.out).mono XC.out.size (Nat.le_refl _))
 clear NDS DW MIN E1
 go_wp2_with (go_at_call 71;refine(others_any (rc:=rc) (v:=v) (most:=ls-1) DC.out).mono ?_;rintro e w5 ⟨b5,rfl,hb5,hO5,x5⟩;have O5:=hide (And.intro hb5 hO5);have X5:=hide x5;clear hb5 hO5 x5)
 have hne:oa≠ob:=fun e=>ty_ne BA.out BB.out (by decide) e
 have A5:=hide ((X5.out.block _ (lt_of_obj BA.out)).trans BA.out)
 have L5:=hide ((X5.out.block _ (lt_of_obj BB.out)).trans BB.out)
 have XR5:Hid (Below wr.heap.size wr w5):=bt XC.out X5.out (Nat.le_refl _)
 have R5:Hid (w5.heap[w.heap.size+1]? =some (.cells #[.slice none 0 0,.slice none 0 0] 70 (0,0))):=(XR5.out.block _ (lt_of_obj B6.out)).trans B6.out
 have X05:Hid (Below w.heap.size w w5):=bt X1.out XR5.out (Nat.le_refl _)
 have SZW:Hid (w.heap.size+1<wr.heap.size):=lt_of_obj B6.out
 have P5:Hid (PxO S F ra R 0 ⟨lb,lc,Ls⟩ w5):=⟨(DC.out.below X5.out).mono X5.out.size (Nat.le_refl _),HG.out⟩
 have O59:Hid (Ot9 w5 (fun k=>k=oa∨k=ob) b5 ra rc R lb lc Ls v (ls-1)):=O5.out.2 _ (fun k hk=>by
  rcases hk with rfl|rfl
  ·exact lt_of_obj BA.out
  ·exact lt_of_obj BB.out)
 clear c1 c2 c3 DC O5 BA BB X5 XC B3 HD HG NDS0 E2
 refine range_wp (gf:=80) (lb:=otCap b5) rfl (enters_of Try.func80 (by kernel_rfl) rfl) (HIT.out b5) (fun _=>rfl) (BsI w5 oa ob S F ra rc R (⟨lb,lc,Ls⟩,ls)) (fun k=>k=oa∨k=ob) (BsI.stb trivial) ⟨A5.out,L5.out,P5.out,fun _=>Iff.rfl,Rnd.refl⟩ ?how (fun _ _ _ _ h hk=>h.soft hk)
  (fun x a' W=>∃Bx,W.heap[Bx]? =some (.cells #[.slice ra R.length rc,.slice (some ⟨x.lb,0,none⟩) x.Ls.length x.lc] 70 (0,0))∧a'={ tmps:=#[dgV ra R.length rc lb Ls.length lc,.int .i64 v,.int .i64 most,.pointer (some ⟨w.heap.size,0,none⟩),undef,undef,.pointer (some ⟨w.heap.size+1,0,none⟩),.pointer (some ⟨oa,0,none⟩),.pointer (some ⟨ob,0,none⟩),.pointer (some ⟨Bx,0,none⟩),undef,u11,u12,u13,u14,u15,u16,dgV ra R.length rc lb Ls.length lc,.int .i64 v,.int .i64 ls,.int .i64 (ls-1),.func (.func 80) #[] (otCap b5),dgV ra R.length rc x.lb x.Ls.length x.lc,undef,undef,undef,undef,undef,undef,undef,undef],defers:=[] }) ?hax ?assign ?body ?done
 case how=>
  intro Q2 w' hQ hb
  refine O59.out.rnd (Rnd.of_below (Q:=fun _=>False) hb) (fun _ _ _ h=>h) (fun k h1 h2 hk=>?_)
  rcases hQ k hk with h|h
  ·exact O59.out.nq k h1 h2 h
  ·have:=O59.out.lt
   omega
 case hax=>
  rintro x a' l' A A' ⟨Bx,h1,h2⟩ ⟨r,hr⟩ hk
  exact⟨Bx,(hk.block Bx (lt_of_obj h1) (fun e=>by rw[e,hr] at h1;cases h1)).trans h1,h2⟩
 case assign=>
  intro l' xs Q2 x W2 K hi hx hK
  simp only[encD]
  gi_wp2
  exact hK _ _ (al (Below.refl _ _) _) ⟨W2.heap.size,heap_alloc_new W2 _,rfl⟩
 case body=>
  rintro l' xs Q2 x a' W2 hi hx ⟨Bx,hBx,rfl⟩
  have q8:W2.cell? ⟨Bx,0,none⟩=some (.slice ra R.length rc):=by rw[cell_of_row W2 _ _ _ _ _ hBx];rfl
  have q9:W2.cell? ⟨Bx,1,none⟩=some (.slice (some ⟨x.lb,0,none⟩) x.Ls.length x.lc):=by rw[cell_of_row W2 _ _ _ _ _ hBx];rfl
  have hx7:x.Ls.length≤12:=by have h1:=hx.2.len;rw[List.length_map] at h1;omega
  have ND:Hid (Calls Try.prog 70 #[dgV ra R.length rc x.lb x.Ls.length x.lc] W2 fun e w'=>e=.returned (.int .i64 (nodesL (layL x.Ls):Nat))∧Below W2.heap.size W2 w'):=nodes_any hx7 hx.1
  have HI:=hide hi
  have HX:Hid (PxO S F ra R 0 x W2):=hx
  have HBX:=hide hBx
  clear hi hx hBx
  obtain⟨nx,hnx⟩:∃nx:Int,((nodesL (layL x.Ls):Nat):Int)=nx:=⟨_,rfl⟩
  rw[hnx] at ND
  obtain⟨cur,hcur⟩:∃cur:Int,(bstF (⟨lb,lc,Ls⟩,ls) xs).2=cur:=⟨_,rfl⟩
  have HNX:=hide hnx
  have HCU:=hide hcur
  clear hnx hcur
  gi_wp2
  refine⟨trivial,rfl,(CallsIn.inRound l' (callsIn_wide.2 ND.out)).mono ?_⟩
  rintro e w6 ⟨rfl,x6⟩
  have X6:=hide x6
  have b6:=(x6.block _ (lt_of_obj HI.out.cb)).trans HI.out.cb
  rw[HCU.out] at b6
  have a6:=(x6.block _ (lt_of_obj HI.out.ca)).trans HI.out.ca
  have q1:w6.cell? ⟨ob,0,none⟩=some (.int .i64 cur):=by rw[cell_of_row w6 _ _ _ _ _ b6];rfl
  clear x6 q8 q9
  by_cases hlt:nx<cur
  ·have bx6:=(X6.out.block _ (lt_of_obj HBX.out)).trans HBX.out
   have q8:w6.cell? ⟨Bx,0,none⟩=some (.slice ra R.length rc):=by rw[cell_of_row w6 _ _ _ _ _ bx6];rfl
   have q9:w6.cell? ⟨Bx,1,none⟩=some (.slice (some ⟨x.lb,0,none⟩) x.Ls.length x.lc):=by rw[cell_of_row w6 _ _ _ _ _ bx6];rfl
   obtain⟨mb,hmb⟩:∃mb,(bstF (⟨lb,lc,Ls⟩,ls) xs).1.lb=mb:=⟨_,rfl⟩
   obtain⟨ml,hml⟩:∃ml,(bstF (⟨lb,lc,Ls⟩,ls) xs).1.Ls.length=ml:=⟨_,rfl⟩
   obtain⟨mc,hmc⟩:∃mc,(bstF (⟨lb,lc,Ls⟩,ls) xs).1.lc=mc:=⟨_,rfl⟩
   rw[hmb,hml,hmc] at a6
   clear hmb hml hmc
   have s0:w6.cell? ⟨oa,0,none⟩=some (.slice ra R.length rc):=by rw[cell_of_row w6 _ _ _ _ _ a6];rfl
   have s1:w6.cell? ⟨oa,1,none⟩=some (.slice (some ⟨mb,0,none⟩) ml mc):=by rw[cell_of_row w6 _ _ _ _ _ a6];rfl
   have g0:=frozen_of_row w6 oa 0 _ _ a6
   have g1:=frozen_of_row w6 oa 1 _ _ a6
   have k7:Kept (fun z=>z=oa) w6 ((w6.setCell ⟨oa,0,none⟩ (.slice ra R.length rc)).setCell ⟨oa,1,none⟩ (.slice (some ⟨x.lb,0,none⟩) x.Ls.length x.lc)):=((Kept.refl (fun z=>z=oa) w6).setCell (p:=⟨oa,0,none⟩) rfl _).setCell (p:=⟨oa,1,none⟩) rfl _
   have b7:=(k7.block ob (lt_of_obj b6) (fun e=>hne e.symm)).trans b6
   have s2:((w6.setCell ⟨oa,0,none⟩ (.slice ra R.length rc)).setCell ⟨oa,1,none⟩ (.slice (some ⟨x.lb,0,none⟩) x.Ls.length x.lc)).cell? ⟨ob,0,none⟩=some (.int .i64 cur):=by rw[cell_of_row _ _ _ _ _ _ b7];rfl
   have g2:=frozen_of_row _ ob 0 _ _ b7
   have FIN:=hide (HI.out.take (x:=x) X6.out HX.out (by rw[HNX.out,HCU.out];exact hlt) hne rfl)
   rw[HNX.out] at FIN
   have HNE:=hide hne
   clear a6 b6 k7 b7 bx6
   gi_wp2
   exact⟨Q2,FIN.out.1,FIN.out.2,fun b hb=>.inl hb⟩
  ·clear a6 b6
   have FIN:=hide (HI.out.stay (x:=x) X6.out (by rw[HNX.out,HCU.out];exact hlt))
   gi_wp2
   exact⟨Q2,FIN.out,Rnd.of_below X6.out,fun b hb=>.inl hb⟩
 case done=>
  intro D1 xs Q2 W2 hD hnD hS2 hi hdf
  obtain⟨x,hx⟩:∃x,(bstF (⟨lb,lc,Ls⟩,ls) xs).1=x:=⟨_,rfl⟩
  have HXS:=hide hx
  have ca:=hi.ca
  have px:=hi.px
  rw[hx] at ca px
  have q0:W2.cell? ⟨oa,0,none⟩=some (.slice ra R.length rc):=by rw[cell_of_row W2 _ _ _ _ _ ca];rfl
  have q1:W2.cell? ⟨oa,1,none⟩=some (.slice (some ⟨x.lb,0,none⟩) x.Ls.length x.lc):=by rw[cell_of_row W2 _ _ _ _ _ ca];rfl
  have hn6:¬Q2 (w.heap.size+1):=fun h=>by
   have h1:=ZZ.out
   have h2:=SZW.out
   rcases (hi.q _).1 h with h|h<;>omega
  have r6:=(hi.rn.same (lt_of_obj R5.out) hn6).trans R5.out
  have s0:W2.cell? ⟨w.heap.size+1,0,none⟩=some (.slice none 0 0):=by rw[cell_of_row W2 _ _ _ _ _ r6];rfl
  have s1:W2.cell? ⟨w.heap.size+1,1,none⟩=some (.slice none 0 0):=by rw[cell_of_row W2 _ _ _ _ _ r6];rfl
  have g0:=frozen_of_row W2 (w.heap.size+1) 0 _ _ r6
  have g1:=frozen_of_row W2 (w.heap.size+1) 1 _ _ r6
  have HR6:=hide r6
  have HPX:=hide px
  have BW:Hid (Below w.heap.size w W2):=X05.out.trans (hi.rn.belowN X05.out.size (fun b hb=>by
   have h1:=ZZ.out
   have h2:=SZW.out
   rcases (hi.q b).1 hb with h|h<;>omega))
  clear hi ca px hx hn6 r6
  go_wp2
  clear q0 q1 s0 s1 g0 g1
  have k10:Rnd (fun z=>z=w.heap.size+1) W2 ((W2.setCell ⟨w.heap.size+1,0,none⟩ (.slice ra R.length rc)).setCell ⟨w.heap.size+1,1,none⟩ (.slice (some ⟨x.lb,0,none⟩) x.Ls.length x.lc)):=by
   have a2:=block_setCell HR6.out 0 (.slice ra R.length rc)
   exact(Rnd.setCell (Q:=fun z=>z=w.heap.size+1) (p:=⟨w.heap.size+1,0,none⟩) rfl (soft70 HR6.out) _).trans (Rnd.setCell (Q:=fun z=>z=w.heap.size+1) (p:=⟨w.heap.size+1,1,none⟩) rfl (soft70 (by simpa using a2)) _)
  have b10:((W2.setCell ⟨w.heap.size+1,0,none⟩ (.slice ra R.length rc)).setCell ⟨w.heap.size+1,1,none⟩ (.slice (some ⟨x.lb,0,none⟩) x.Ls.length x.lc)).heap[w.heap.size+1]? =some (.cells #[.slice ra R.length rc,.slice (some ⟨x.lb,0,none⟩) x.Ls.length x.lc] 70 (0,0)):=by
   have:=block_setCell (block_setCell HR6.out 0 (.slice ra R.length rc)) 1 (.slice (some ⟨x.lb,0,none⟩) x.Ls.length x.lc)
   simpa using this
  have hneD:D1≠w.heap.size+1:=fun e=>by
   have h1:=HR6.out
   rw[←e,hdf] at h1
   cases h1
  have d10:=(k10.same (lt_of_obj hdf) hneD).trans hdf
  generalize (W2.setCell ⟨w.heap.size+1,0,none⟩ (.slice ra R.length rc)).setCell ⟨w.heap.size+1,1,none⟩ (.slice (some ⟨x.lb,0,none⟩) x.Ls.length x.lc)=w10 at *
  have k11:Rnd (fun z=>z=D1) w10 (w10.putObj D1 (.deferred none)):=Rnd.putObj _ rfl (soft_other d10 (fun _ _ _ h=>by cases h))
  have b11:=(k11.same (lt_of_obj b10) (fun e=>hneD e.symm)).trans b10
  refine⟨by simp,.inl ⟨_,_,rfl,run_takeDeferred d10,?_⟩⟩
  have PX:=(HPX.out.soft k10.any).soft k11.any
  have BB2:Below w.heap.size w (w10.putObj D1 (.deferred none)):=(BW.out.trans (k10.belowN BW.out.size (fun b hb=>by omega))).trans (k11.belowN (Nat.le_trans BW.out.size k10.size) (fun b hb=>by have:=X05.out.size;omega))
  generalize w10.putObj D1 (.deferred none)=w11 at *
  have r3:w11.cell? ⟨w.heap.size+1,0,none⟩=some (.slice ra R.length rc):=by rw[cell_of_row w11 _ _ _ _ _ b11];rfl
  have r4:w11.cell? ⟨w.heap.size+1,1,none⟩=some (.slice (some ⟨x.lb,0,none⟩) x.Ls.length x.lc):=by rw[cell_of_row w11 _ _ _ _ _ b11];rfl
  refine⟨dgV ra R.length rc x.lb x.Ls.length x.lc,by simp[results,Try.results39,go_sem,r3,r4];try rfl,?_⟩
  refine⟨xs,hS2,?_,?_,BB2⟩
  ·rw[HXS.out]
  ·rw[HXS.out];exact PX
end
end Go.Proofs.Ytnddhkhmbjeefaa

