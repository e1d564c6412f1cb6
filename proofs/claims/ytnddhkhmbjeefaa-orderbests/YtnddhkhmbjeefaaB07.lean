/-
  table.place by its contract. Condition: a row that may be; fewer than 2^31 rows.
-/
import Derived.Test.YtnddhkhmbjeefaaB06
namespace Go.Proofs.Ytnddhkhmbjeefaa
open Go.RowKit Go.Lib Go.Maps
theorem Try.info102:(Try.prog.info? 102).map (fun i=>(i.zero,i.size,i.bytes))=some (some (.slice none 0 0),1,24):=by kernel_rfl
theorem keyOf_row (r:List Rn) (h:r.length≤256):keyOf Try.prog 9 (.string ⟨(keyR r).toArray⟩)=some (keyK r):=by
 have:=WideMaps.keyOf_string_mk (P:=Try.prog) (k:=9) Try.underlying9 (s:=⟨(keyR r).toArray⟩) (by
  have:=keyR_length r
  simp only[ByteArray.size,List.size_toArray]
  unfold maxLen;omega)
 rw[this]
 simp[keyK]
theorem keyK_key (r:List Rn):WideAt.IsKeyLit (keyK r):=by unfold keyK;trivial
theorem keyK_inj {a b:List Rn} (ha:RFit a) (hb:RFit b) (h:keyK a=keyK b):a=b:=by
 unfold keyK at h
 injection h with h
 exact keyR_inj a b ha.rn hb.rn h
def PlL (t:Nat) (T:List (List Rn)) (P Q:Nat→Prop) (r:List Rn) (w:World) (e:Ending) (w':World):Prop:=
 ∃i:Nat,e=.returned (.int .i32 (i:Int))∧(plc T r)[i]? =some r∧∃P',TbAt w' t (plc T r) P' (fun k=>Q k∨w.heap.size≤k)∧Kept P w w'∧∀k,P' k→P k∨w.heap.size≤k
section
variable {w:World} {t:Nat} {Rs:List RD} {P Q:Nat→Prop} {rv kv:Value} {mb kn:Nat} {kx:List Value}
set_option maxRecDepth 100000 in
set_option maxHeartbeats 4000000 in
theorem place_any (h:TbX w t Rs P rv mb kv kn kx) {b cap:Nat} {r:List Rn} (hr:RwB w b r) (hf:RFit r) (hl:Rs.length<2147483647) (hq:∀x∈Rs,Q x.b):
 Calls Try.prog 84 #[.pointer (some ⟨t,0,none⟩),.slice (some ⟨b,0,none⟩) r.length cap] w fun e w'=>PlL t (rdR Rs) P Q r w e w':=by
 obtain⟨c0,c1,c2⟩:=h.cells
 obtain⟨ka,kc,hkv,_⟩:=own_shape h.key
 subst hkv
 have HH:=hide h
 have HR:=hide hr
 have HF:=hide hf
 have HNB:Hid ((Value.slice ka 0 kc).ownBlock≠some b):=fun e=>by
  rw[own_blk0 (n:=kn)] at e
  obtain⟨cs,h5,_⟩:=hr
  exact h.nr b (h.pk b e) cs h5
 have HAK:=hide (appendKey_any (cap:=cap) (own_cut0 h.key) hr hf.rn (by have:=hf.le;omega) (Nat.zero_le _) HNB.out)
 have HKO:=hide (keyOf_row r hf.le)
 have hb2:=own_cap' h.key
 have hcm:kc≤maxLen:=by
  rcases h.key.2 with⟨e1,_⟩|⟨g,cap',cur,e1,_,_,_,h2,_⟩
  ·injection e1 with _ _ e2;subst e2;exact Nat.zero_le _
  ·injection e1 with _ _ e2;subst e2;exact h2
 have hc0:(0:Int)≤(kc:Int):=by omega
 have HQ:=hide hq
 clear h hr hf hq
 go_enter Try.func84,Try.ntmps84
 have HBT:Hid (∀W v',GrowAt w W (.slice ka 0 kc) v'→W.heap[t]? =some (.cells #[rv,.map (some mb),.slice ka kn kc] 112 (0,0))):=fun W v' g=>(g.1.block t (lt_of_block HH.out.blk) (fun e=>by
  rw[own_blk0 (n:=kn)] at e
  obtain⟨cs,h5⟩:=own_ty HH.out.key _ e
  exact ty_ne h5 HH.out.blk (by decide) rfl)).trans HH.out.blk
 go_upto_region 2 with(go_at_call 91;refine HAK.out.mono ?_;rintro e w1 ⟨v',rfl,o1,g1⟩;obtain⟨ao1,cap1,hv1,hp1⟩:=own_shape o1;obtain⟨g,hg⟩:=hp1 (by rw[keyR_length];have:=HF.out.pos;omega);subst hg;subst hv1;have f1:=frozen_of_row w1 t 2 _ _ (HBT.out _ _ g1);have q1:w1.cell? ⟨t,2,none⟩=some (.slice ka kn kc):=(by rw[cell_of_row w1 t _ _ _ _ (HBT.out _ _ g1)];rfl);have O1:=hide o1;have G1:=hide g1;clear o1 g1 hp1)
 all_goals
  obtain⟨P2,h2,k2,p2⟩:=HH.out.rekey own_blk0 G1.out O1.out
  have H2:=hide h2
  have K2:=hide k2
  have P2':=hide p2
  have HR2:Hid (RwB (w1.setCell ⟨t,2,none⟩ (.slice (some ⟨g,0,none⟩) (keyR r).length cap1)) b r):=HR.out.keptT k2 HH.out.nr
  clear h2 k2 p2 f1 q1 O1 G1 HBT HAK c0 c1 c2
  generalize w1.setCell ⟨t,2,none⟩ (.slice (some ⟨g,0,none⟩) (keyR r).length cap1)=w2 at *
  have H3:=hide (H2.out.below (Below.refl _ w2).drew)
  have K3:Hid (Kept P w w2.drew):=K2.out.drew
  have HR3:Hid (RwB w2.drew b r):=HR2.out.below (Below.refl _ w2).drew
  have SZ3:Hid (w.heap.size≤w2.drew.heap.size):=K3.out.size
  refine wp_unt (S:=fun V=>V=w2.drew) 14 (by kernel_rfl) ?_
  generalize w2.drew=w3 at *
  clear H2 K2 HR2
  have c1:=H3.out.cells.2.1
  have c2:=H3.out.cells.2.2
  have hcv:=run_convert_bytes_back (P:=Try.prog) w3 110 9 5 ⟨g,0,none⟩ cap1 (keyR r) Try.underlying110 Try.underlying5 Try.underlying9 (fun j hj=>by
   rw[addr_add,Nat.zero_add,World.ownsRow.cellAt H3.out.key j (by omega)]
   simp[uC,hj])
  obtain⟨D,hown,hh,ha⟩:=H3.out.map
  have hz0:(zeroValue 21).run Try.prog w3=.ok (.int .i32 0) w3:=Try.zeroValue21 w3
  obtain⟨v,ps,hlook,hv⟩:=hown.look_ok (string_keyed Try.underlying9) Try.underlying109 hz0 (plainElem_int Try.underlying21 (by decide)) HKO.out
  obtain⟨c,rfl,hat0,_⟩:=plainElem_int_inv Try.underlying21 hv
  have hat:=congrArg Prod.fst hat0
  clear hv hat0
  refine UntH.tk 0 rfl 19 rfl (fun w' hw'=>by subst hw';go_simp;first|done|rfl) ?_
  refine UntH.tk 1 rfl 20 rfl (fun w' hw'=>by subst hw';go_simp;first|done|rfl) ?_
  refine UntH.tk 2 rfl 21 rfl (fun w' hw'=>by subst hw';go_simp;first|done|rfl) ?_
  refine UntH.tk 3 rfl 22 rfl (fun w' hw'=>by subst hw';go_simp;first|done|rfl) ?_
  refine UntH.tk 4 rfl 23 rfl (fun w' hw'=>by subst hw';go_simp;first|done|rfl) ?_
  refine UntH.tk 5 rfl 24 rfl (fun w' hw'=>by subst hw';go_simp;first|done|rfl) ?_
  refine UntH.tk 6 rfl 25 rfl (fun w' hw'=>by subst hw';go_simp;first|done|rfl) ?_
  refine UntH.tk 7 rfl 26 rfl (fun w' hw'=>by subst hw';go_simp;first|done|rfl) ?_
  refine UntH.tk 8 rfl 27 rfl (fun w' hw'=>by subst hw';go_simp;first|done|rfl) ?_
  refine UntH.tk 9 rfl 28 rfl (fun w' hw'=>by subst hw';go_simp;first|done|rfl) ?_
  refine UntH.tk 10 rfl 18 rfl (fun w' hw'=>by subst hw';go_simp;first|done|rfl) ?_
  refine UntH.tk 11 rfl 29 rfl (fun w' hw'=>by subst hw';go_simp;first|done|rfl) ?_
  refine UntH.tk 12 rfl 30 rfl (fun w' hw'=>by subst hw';go_simp;first|done|rfl) ?_
  refine UntH.tk 13 rfl 5 rfl (fun w' hw'=>by subst hw';go_simp;first|done|rfl) ?_
  try simp only[Act.put,List.setIfInBounds_toArray,List.set_cons_zero,List.set_cons_succ]
  refine UntH.last (by kernel_rfl) rfl (by kernel_rfl) (by kernel_rfl) (fun K hK=>?_)
  go_simp
  refine hK _ _ ?_
  clear hK K hlook hcv
  have HM:∀kl,kl∈(Rs.map fun x=>keyK x.r)↔∃x∈Rs,keyK x.r=kl:=fun kl=>List.mem_map
  by_cases hin:r∈rdR Rs
  ·have hk:keyK r∈Rs.map fun x=>keyK x.r:=by
    obtain⟨x,hx,e⟩:=List.mem_map.1 hin
    exact List.mem_map.2 ⟨x,hx,by rw[e]⟩
   rw[(hh _).2 hk]
   obtain⟨i,hi,ei,rfl⟩:=MpT.hit ha hat hk
   rw[List.length_map] at hi
   rw[List.getElem_map] at ei
   have er:(Rs[i]).r=r:=keyK_inj (H3.out.fit _ (List.getElem_mem hi)).1 HF.out ei
   have HE:Hid ((rdR Rs)[i]? =some r):=by unfold Hid;rw[rdR,List.getElem?_map,List.getElem?_eq_getElem hi];exact congrArg some er
   have HP:Hid (plc (rdR Rs) r=rdR Rs):=by unfold Hid plc;rw[if_pos hin]
   clear hin hk ei er hat ha hh hown HM c1 c2 hz0
   go_wp2
   go_ret
   exact⟨i,rfl,by rw[HP.out];exact HE.out,P2,by rw[HP.out];exact⟨Rs,rv,mb,_,_,_,H3.out,rfl,fun x hx=>.inl (HQ.out x hx)⟩,K3.out,P2'.out⟩
  ·have hk:keyK r∉Rs.map fun x=>keyK x.r:=fun hm=>by
    obtain⟨x,hx,e⟩:=List.mem_map.1 hm
    exact hin (List.mem_map.2 ⟨x,hx,keyK_inj (H3.out.fit x hx).1 HF.out e⟩)
   have hhas:Maps.has D (keyK r)=false:=by
    cases e:Maps.has D (keyK r)
    ·rfl
    ·exact absurd ((hh _).1 e) hk
   rw[hhas]
   have HP:Hid (plc (rdR Rs) r=rdR Rs++[r]):=by unfold Hid plc;rw[if_neg hin]
   obtain⟨ra,rc,hrv,_⟩:=own_shape H3.out.row
   subst hrv
   have c0:=H3.out.cells.1
   have e1:IntKind.i32.wrap (Rs.length:Int)=(Rs.length:Int):=by simp[IntKind.wrap,IntKind.bits,IntKind.signed];omega
   have HOWN:=hide hown
   have HHS:=hide hh
   have HAT:=hide ha
   have HKN:=hide hk
   clear hown hh ha hk hin hhas hat HM hz0 c1 c2
   go_upto_region 6 with fail
   clear c0
   have H4:=hide (H3.out.below (Below.refl _ w3).drew)
   have K4:Hid (Kept P w w3.drew):=K3.out.drew
   have HR4:Hid (RwB w3.drew b r):=HR3.out.below (Below.refl _ w3).drew
   have HOW4:Hid (w3.drew.ownsMap Try.prog 9 (plainElem Try.prog 21) mb Rs.length D):=by
    obtain⟨es,cl,h1,h2⟩:=HOWN.out
    exact⟨es,cl,h1,h2⟩
   refine wp_unt (S:=fun V=>V=w3.drew) 10 (by kernel_rfl) ?_
   generalize w3.drew=w4 at *
   clear H3 K3 HR3 HOWN
   have c1:=H4.out.cells.2.1
   have c2:=H4.out.cells.2.2
   have hcv:=run_convert_bytes_back (P:=Try.prog) w4 110 9 5 ⟨g,0,none⟩ cap1 (keyR r) Try.underlying110 Try.underlying5 Try.underlying9 (fun j hj=>by
    rw[addr_add,Nat.zero_add,World.ownsRow.cellAt H4.out.key j (by omega)]
    simp[uC,hj])
   have hwf:(Lit.int .i32 (Rs.length:Int)).wf=true:=by simp[Lit.wf,IntKind.min,IntKind.max,IntKind.bits,IntKind.signed];omega
   obtain⟨w5,hrun,r1,r2⟩:=HOW4.out.store (string_keyed Try.underlying9) Try.underlying109 (by unfold maxLen;omega) HKO.out (plainElem_int Try.underlying21 hwf)
   have R2:=hide r2
   have HPU:=hide (MpT.put (kt:=9) (keyK_key r) HKN.out HOW4.out.isMap HHS.out HAT.out (by rw[List.length_map];exact r1))
   clear r1 r2 hwf
   refine UntH.tk 0 rfl 39 rfl (fun w' hw'=>by subst hw';go_simp;first|done|rfl) ?_
   refine UntH.tk 1 rfl 40 rfl (fun w' hw'=>by subst hw';go_simp;first|done|rfl) ?_
   refine UntH.tk 2 rfl 41 rfl (fun w' hw'=>by subst hw';go_simp;first|done|rfl) ?_
   refine UntH.tk 3 rfl 42 rfl (fun w' hw'=>by subst hw';go_simp;first|done|rfl) ?_
   refine UntH.tk 4 rfl 43 rfl (fun w' hw'=>by subst hw';go_simp;first|done|rfl) ?_
   refine UntH.tk 5 rfl 44 rfl (fun w' hw'=>by subst hw';go_simp;first|done|rfl) ?_
   refine UntH.tk 6 rfl 45 rfl (fun w' hw'=>by subst hw';go_simp;first|done|rfl) ?_
   refine UntH.tk 7 rfl 46 rfl (fun w' hw'=>by subst hw';go_simp;first|done|rfl) ?_
   refine UntH.tk 8 rfl 47 rfl (fun w' hw'=>by subst hw';go_simp;first|done|rfl) ?_
   refine UntH.tk 9 rfl 48 rfl (fun w' hw'=>by subst hw';go_simp;first|done|rfl) ?_
   try simp only[Act.put,List.setIfInBounds_toArray,List.set_cons_zero,List.set_cons_succ]
   refine UntH.last (by kernel_rfl) rfl (by kernel_rfl) (by kernel_rfl) (fun K hK=>?_)
   go_simp
   refine hK _ _ ?_
   clear hK K hrun hcv c1 c2
   obtain⟨es4,cl4,hmb4⟩:=H4.out.map.blk
   have B5:Hid (w5.heap[t]? =some (.cells #[.slice ra Rs.length rc,.map (some mb),.slice (some ⟨g,0,none⟩) (keyR r).length cap1] 112 (0,0))):=((mapTurned_kept R2.out).block t (lt_of_block H4.out.blk) (map_ne H4.out.blk hmb4)).trans H4.out.blk
   have ROW5:Hid (w5.ownsRow 0 102 1 (.slice ra Rs.length rc) Rs.length (rdC Rs)):=own_kept H4.out.row (mapTurned_kept R2.out) (fun k hk e=>by
    obtain⟨cs',h5⟩:=own_ty H4.out.row _ hk
    exact map_ne h5 hmb4 e)
   have HR5:Hid (RwB w5 b r):=HR4.out.kept (mapTurned_kept R2.out) (fun e=>by
    obtain⟨cs,h5,_⟩:=HR4.out
    exact map_ne h5 hmb4 e)
   clear hmb4
   go_upto_region 7 with fail
   have BD:Hid (w5.drew.heap[t]? =some (.cells #[.slice ra Rs.length rc,.map (some mb),.slice (some ⟨g,0,none⟩) (keyR r).length cap1] 112 (0,0))):=B5.out
   have XD:Hid (Below w5.heap.size w5 w5.drew):=(Below.refl _ w5).drew
   have ROWD:Hid (w5.drew.ownsRow 0 102 1 (.slice ra Rs.length rc) Rs.length (rdC Rs)):=own_below ROW5.out XD.out
   have HRD:Hid (RwB w5.drew b r):=HR5.out.below XD.out
   refine wp_unt (S:=fun V=>V.cell? ⟨t,0,none⟩=some (.slice ra Rs.length rc)) 11 (by kernel_rfl) ?_
   generalize w5.drew=wd at *
   clear B5 ROW5 HR5
   have HS0:Hid ((fun V:World=>V.cell? ⟨t,0,none⟩=some (.slice ra Rs.length rc)) wd):=by show wd.cell? ⟨t,0,none⟩=_;rw[cell_of_row wd t _ _ _ _ BD.out];rfl
   have HCL:=hide (cloneR_any b cap r wd (by have:=HF.out.le;omega) HF.out.pos HRD.out)
   obtain⟨i102,hi102,hz0,hz1,hz2⟩:=info_parts Try.info102
   refine UntH.tk 0 rfl 49 HS0.out (fun w' q0=>by go_simp;first|done|rfl) ?_
   refine UntH.tk 1 rfl 50 HS0.out (fun w' q0=>by go_simp;first|done|rfl) ?_
   refine UntH.tk 2 rfl 51 HS0.out (fun w' q0=>by go_simp;first|done|rfl) ?_
   refine UntH.tk 3 rfl 52 HS0.out (fun w' q0=>by go_simp;first|done|rfl) ?_
   refine UntH.tk 4 rfl 53 HS0.out (fun w' q0=>by go_simp;first|done|rfl) ?_
   refine UntH.tk 5 rfl 54 HS0.out (fun w' q0=>by go_simp;first|done|rfl) ?_
   try simp only[Act.put,List.setIfInBounds_toArray,List.set_cons_zero,List.set_cons_succ]
   refine UntH.step (i:=6) (by kernel_rfl) rfl (fun K hK=>?_)
   go_simp
   refine HCL.out.mono ?_
   rintro e w6 ⟨⟨g6,c6,rfl,z6,l6,u6⟩,x6⟩
   have U6:=hide u6
   have L6:=hide l6
   have Z6:=hide z6
   have X6:=hide (bt XD.out x6 (Nat.le_refl _))
   have B6:Hid (w6.heap[t]? =some (.cells #[.slice ra Rs.length rc,.map (some mb),.slice (some ⟨g,0,none⟩) (keyR r).length cap1] 112 (0,0))):=(x6.block t (lt_of_block BD.out)).trans BD.out
   have ROW6:=hide (own_below ROWD.out x6)
   have HS6:Hid (w6.cell? ⟨t,0,none⟩=some (.slice ra Rs.length rc)):=by unfold Hid;rw[cell_of_row w6 t _ _ _ _ B6.out];rfl
   refine hK _ _ HS6.out ?_
   clear hK K z6 l6 u6 x6 HCL
   try simp only[Act.put,List.setIfInBounds_toArray,List.set_cons_zero,List.set_cons_succ]
   have y7:Below w6.heap.size w6 (w6.alloc (.cells #[.slice (some ⟨g6,0,none⟩) r.length c6] 102)):=al (Below.refl _ _) _
   have Z7:=hide (Z6.out.below y7)
   have X7:=hide (bt X6.out y7 (Nat.le_refl _))
   have ROW7:=hide (own_below ROW6.out y7)
   have B7:Hid ((w6.alloc (.cells #[.slice (some ⟨g6,0,none⟩) r.length c6] 102)).heap[t]? =some (.cells #[.slice ra Rs.length rc,.map (some mb),.slice (some ⟨g,0,none⟩) (keyR r).length cap1] 112 (0,0))):=(y7.block t (lt_of_block B6.out)).trans B6.out
   have HS7:Hid ((w6.alloc (.cells #[.slice (some ⟨g6,0,none⟩) r.length c6] 102)).cell? ⟨t,0,none⟩=some (.slice ra Rs.length rc)):=by unfold Hid;rw[cell_of_row _ t _ _ _ _ B7.out];rfl
   have HNW:=hide (one_new w6 (.slice (some ⟨g6,0,none⟩) r.length c6) 102)
   refine UntH.step (i:=7) (by kernel_rfl) rfl (fun K hK=>?_)
   go_simp
   refine hK _ _ HS7.out ?_
   clear hK K y7 ROW6 Z6 X6 B6 HS6
   generalize w6.alloc (.cells #[.slice (some ⟨g6,0,none⟩) r.length c6] 102)=w7 at *
   refine UntH.step (i:=8) (by kernel_rfl) rfl (fun K hK=>?_)
   refine step_append_lies _ (by rfl) (.tmp 53) (.tmp 56) 98 (by rfl) 0 102 i102 (.slice none 0 0) 1 24 Try.underlying98 hi102 hz0 hz1 hz2 rfl (by decide) _ Rs.length (rdC Rs) (by rfl) ROW7.out ⟨w6.heap.size,0,none⟩ 1 1 [.slice (some ⟨g6,0,none⟩) r.length c6] (by rfl) (by rfl) HNW.out (by simp[Value.oneCell']) (by decide) (by unfold maxLen;omega) (by omega) (Nat.zero_le _) _ rfl ?_
   intro g8 cap8 w8 h1 h2 h3 h4
   have O8:=hide h1
   have G8:=hide h2
   have L8:Hid (∀k,(Value.slice (some ⟨g8,0,none⟩) (Rs.length+1) cap8).ownBlock=some k→(Value.slice ra Rs.length rc).ownBlock=some k∨w7.heap.size≤k):=fun k hk=>by
    have e:g8=k:=Option.some.inj hk
    subst e
    rcases h3 with h3|h3
    ·exact .inl h3
    ·exact .inr (by omega)
   have B8:Hid (w8.heap[t]? =some (.cells #[.slice ra Rs.length rc,.map (some mb),.slice (some ⟨g,0,none⟩) (keyR r).length cap1] 112 (0,0))):=((kept_of_grown h2).block t (lt_of_block B7.out) (fun hk=>by
    obtain⟨cs',h5⟩:=own_ty ROW7.out _ hk
    exact ty_ne h5 B7.out (by decide) rfl)).trans B7.out
   have HS8:Hid (w8.cell? ⟨t,0,none⟩=some (.slice ra Rs.length rc)):=by unfold Hid;rw[cell_of_row w8 t _ _ _ _ B8.out];rfl
   have f8:=frozen_of_row w8 t 0 _ _ B8.out
   refine hK _ _ HS8.out ?_
   clear hK K h1 h2 h3 h4
   refine UntH.tk 9 rfl 58 HS8.out (fun w' q0=>by go_simp;first|done|rfl) ?_
   refine UntH.tk 10 rfl 59 HS8.out (fun w' q0=>by go_simp;first|done|rfl) ?_
   have q8:=HS8.out
   refine UntH.last (by kernel_rfl) rfl (by kernel_rfl) (by kernel_rfl) (fun K hK=>?_)
   go_simp
   refine hK _ _ ?_
   clear hK K q8 f8 HS8 HS7 HS0
   have FIN:=hide (H4.out.add R2.out HPU.out X7.out Z7.out (Nat.le_trans (Nat.le_trans (mapTurned_kept R2.out).size XD.out.size) L6.out) HQ.out ⟨HF.out,U6.out⟩ O8.out G8.out L8.out (w4:=w8.setCell ⟨t,0,none⟩ (.slice (some ⟨g8,0,none⟩) (Rs.length+1) cap8)) rfl)
   have HE:Hid ((rdR Rs++[r])[Rs.length]? =some r):=by unfold Hid;rw[List.getElem?_append_right (by simp[rdR])];simp[rdR]
   clear O8 G8 L8 B8 B7 ROW7 HNW X7 Z7 ROWD BD XD HRD HR4 HPU R2
   generalize w8.setCell ⟨t,0,none⟩ (.slice (some ⟨g8,0,none⟩) (Rs.length+1) cap8)=w9 at *
   go_wp2
   go_ret
   obtain⟨P',p1,p3,p4⟩:=FIN.out
   have hsz:=K4.out.size
   refine⟨Rs.length,rfl,by rw[HP.out];exact HE.out,P',by rw[HP.out];exact p1.mono (fun k hk=>hk.imp id (fun h=>by omega)),K4.out.trans_new p3 (fun k hk hp=>(P2'.out k hp).resolve_right (by omega)),fun k hk=>(p4 k hk).elim (P2'.out k) (fun h=>.inr (by omega))⟩
end
theorem TbAt.place {w:World} {t:Nat} {T:List (List Rn)} {P Q:Nat→Prop} (h:TbAt w t T P Q) {b cap:Nat} {r:List Rn} (hr:RwB w b r) (hf:RFit r) (hl:T.length<2147483647):
 Calls Try.prog 84 #[.pointer (some ⟨t,0,none⟩),.slice (some ⟨b,0,none⟩) r.length cap] w fun e w'=>PlL t T P Q r w e w':=by
 obtain⟨Rs,rv,mb,kv,kn,kx,h1,rfl,h3⟩:=h
 exact place_any h1 hr hf (by simpa [rdR] using hl) h3
theorem rlN_len (f:Nat→Int):∀n,(rlN f n).length≤n
 |0=>Nat.le_refl _
 |n+1=>by
  have ih:=rlN_len f n
  unfold rlN
  rcases List.eq_nil_or_concat (rlN f n) with h|⟨l,x,h⟩
  ·rw[h];simp[joinR]
  ·rw[h,List.concat_eq_append,joinR_snoc]
   rw[h,List.concat_eq_append,List.length_append,List.length_singleton] at ih
   split
   ·simp only[List.length_append,List.length_singleton];omega
   ·simp only[List.length_append,List.length_cons,List.length_nil];omega
theorem rlN_pos (f:Nat→Int) {n:Nat} (h:0<n):0<(rlN f n).length:=by
 obtain⟨k,rfl⟩:∃k,n=k+1:=⟨n-1,by omega⟩
 unfold rlN
 exact List.length_pos_iff.2 (joinR_ne _ _ _)
theorem rlN_fit {f:Nat→Int} {n:Nat} (h0:0<n) (h1:n≤256) (hf:∀a,a<n→0≤f a∧f a<2147483648):RFit (rlN f n):=by
 refine⟨fun y hy=>?_,rlN_pos f h0,Nat.le_trans (rlN_len f n) h1⟩
 obtain⟨i,hi,rfl⟩:=List.getElem_of_mem hy
 obtain⟨g0,g1,g2,g3⟩:=(runs_ok f n).each i hi
 have e:=g3 (loR (rlN f n) i).toNat (by omega) (by omega)
 have:=hf (loR (rlN f n) i).toNat (by omega)
 rw[e] at this
 exact⟨by omega,by omega,this.1,this.2⟩
def colF (hf:Nat→Nat→Int) (rw:List Rn) (sA c:Nat):List Rn:=rlN (fun a=>hf (runIx rw (a:Int)) c) sA
def PosS (r:List Rn) (j e:Nat):Prop:=∃h:j<r.length,loR r j≤(e:Int)∧(e:Int)≤(r[j]).1
def PosT (r:List Rn) (j e:Nat):Prop:=∃h:j<r.length,loR r j≤(e:Int)∧(e:Int)<(r[j]).1
def endR (r:List Rn) (j:Nat):Int:=(r.getD j (0,0)).1
def toR (r:List Rn) (j:Nat):Int:=(r.getD j (0,0)).2
theorem endR_at {r:List Rn} {j:Nat} (h:j<r.length):endR r j=(r[j]).1∧toR r j=(r[j]).2:=by
 unfold endR toR
 rw[List.getD_eq_getElem?_getD,List.getElem?_eq_getElem h]
 exact⟨rfl,rfl⟩
section
variable {f:Nat→Int} {n:Nat} {r:List Rn} {j e:Nat}
theorem PosS.go (hr:r=rlN f n) (h:PosS r j e) (he:e<n) (hne:endR r j=(e:Int)):PosT r (j+1) e:=by
 obtain⟨hj,h1,h2⟩:=h
 have ok:=runs_ok f n
 rw[←hr] at ok
 rw[(endR_at hj).1] at hne
 have hj1:j+1<r.length:=by
  rcases Nat.lt_or_ge (j+1) r.length with h3|h3
  ·exact h3
  ·have:r.length=j+1:=by omega
   have hl:=ok.last
   rw[this,loR_succ hj] at hl
   omega
 refine⟨hj1,by rw[loR_succ hj];omega,?_⟩
 have:=(ok.each (j+1) hj1).2.1
 rw[loR_succ hj] at this
 omega
theorem PosS.stay (h:PosS r j e) (hne:endR r j≠(e:Int)):PosT r j e:=by
 obtain⟨hj,h1,h2⟩:=h
 rw[(endR_at hj).1] at hne
 exact⟨hj,h1,by omega⟩
theorem PosT.back (h:PosT r j e) {e1:Nat} (h1:e≤e1) (h2:(e1:Int)≤endR r j):PosS r j e1:=by
 obtain⟨hj,h3,h4⟩:=h
 rw[(endR_at hj).1] at h2
 exact⟨hj,by omega,h2⟩
theorem PosT.val (hr:r=rlN f n) (h:PosT r j e) {c:Nat} (h1:e≤c) (h2:(c:Int)<endR r j):f c=toR r j:=by
 obtain⟨hj,h3,h4⟩:=h
 have ok:=runs_ok f n
 rw[←hr] at ok
 rw[(endR_at hj).1] at h2
 rw[(endR_at hj).2]
 exact(ok.each j hj).2.2.2 c (by omega) h2
theorem PosT.rng (hr:r=rlN f n) (h:PosT r j e):(e:Int)<endR r j∧endR r j≤(n:Int)∧j<r.length:=by
 obtain⟨hj,h3,h4⟩:=h
 have ok:=runs_ok f n
 rw[←hr] at ok
 rw[(endR_at hj).1]
 exact⟨h4,(ok.each j hj).2.2.1,hj⟩
end
def rsV (x:RD) (j:Nat):Value:=.slice (some ⟨x.b,j*2,none⟩) (x.r.length-j) (x.c-j)
def TnB (w:World) (bb:Nat) (BL:List RD) (js:Nat→Nat):Prop:=∃cs,w.heap[bb]? =some (.cells cs 102 (0,0))∧∀k (h:k<BL.length),cs[k]? =some (rsV BL[k] (js k))
def setJ (js:Nat→Nat) (k j:Nat):Nat→Nat:=fun i=>if i=k then j else js i
section
variable {w w':World} {bb:Nat} {BL:List RD} {js:Nat→Nat} {F:Nat→Prop}
theorem TnB.lt (h:TnB w bb BL js):bb<w.heap.size:=by
 obtain⟨cs,h1,_⟩:=h
 exact lt_of_block h1
theorem TnB.kept (h:TnB w bb BL js) (hk:Kept F w w') (hF:¬F bb):TnB w' bb BL js:=by
 have hl:=h.lt
 obtain⟨cs,h1,h2⟩:=h
 exact⟨cs,(hk.block bb hl hF).trans h1,h2⟩
theorem TnB.below (h:TnB w bb BL js) (x:Below w.heap.size w w'):TnB w' bb BL js:=h.kept (F:=fun _=>False) (Kept.of_below x) (fun h=>h)
theorem TnB.cell (h:TnB w bb BL js) {k:Nat} (hk:k<BL.length):w.cell? ⟨bb,k,none⟩=some (rsV BL[k] (js k))∧w.frozen? ⟨bb,k,none⟩=false:=by
 obtain⟨cs,h1,h2⟩:=h
 rw[cell_of_row w bb _ _ _ _ h1]
 exact⟨h2 k hk,frozen_of_row w bb k _ _ h1⟩
theorem TnB.set (h:TnB w bb BL js) {k j:Nat} (hk:k<BL.length):TnB (w.setCell ⟨bb,k,none⟩ (rsV BL[k] j)) bb BL (setJ js k j):=by
 obtain⟨cs,h1,h2⟩:=h
 refine⟨_,block_setCell h1 k _,fun i hi=>?_⟩
 by_cases e:i=k
 ·subst e
  have hlt:i<cs.size:=by
   rcases Nat.lt_or_ge i cs.size with h3|h3
   ·exact h3
   ·have:=h2 i hi
    rw[Array.getElem?_eq_none h3] at this;cases this
  simp[setJ,Array.set!,Array.setIfInBounds,hlt]
 ·simp only[setJ,if_neg e]
  rw[←h2 i hi]
  simp[Array.set!,Array.setIfInBounds]
  split
  ·rw[Array.getElem?_set_ne]
   exact fun h=>e h.symm
  ·rfl
theorem TnB.same (h:TnB w bb BL js) {js':Nat→Nat} (e:∀k,k<BL.length→js' k=js k):TnB w bb BL js':=by
 obtain⟨cs,h1,h2⟩:=h
 exact⟨cs,h1,fun k hk=>by rw[e k hk];exact h2 k hk⟩
end
end Go.Proofs.Ytnddhkhmbjeefaa

