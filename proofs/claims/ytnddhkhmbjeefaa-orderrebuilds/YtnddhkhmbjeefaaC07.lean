/-
  What turn keeps while it goes on, in pure words and in memory. No condition.
-/
import Derived.Test.YtnddhkhmbjeefaaC06
import Derived.Deep.DeepCutAuto
import Derived.Deep.CutBlock
namespace Go.Proofs.Ytnddhkhmbjeefaa
open Go.RowKit Go.Lib Go.Maps
theorem rlN_len (f:Nat→Int):∀n,(rlN f n).length≤n
 |0=>Nat.le_refl _
 |n+1=>by
  have ih:=rlN_len f n
  unfold rlN
  rcases List.eq_nil_or_concat (rlN f n) with h|⟨l,x,h⟩
  ·rw[h];simp[joinR]
  ·rw[h,List.concat_eq_append,joinR_snoc]
   rw[h,List.concat_eq_append,List.length_append,List.length_singleton] at ih
   split
   ·simp only[List.length_append,List.length_singleton];omega
   ·simp only[List.length_append,List.length_cons,List.length_nil];omega
theorem rlN_pos (f:Nat→Int) {n:Nat} (h:0<n):0<(rlN f n).length:=by
 obtain⟨k,rfl⟩:∃k,n=k+1:=⟨n-1,by omega⟩
 unfold rlN
 exact List.length_pos_iff.2 (joinR_ne _ _ _)
theorem rlN_fit {f:Nat→Int} {n:Nat} (h0:0<n) (h1:n≤256) (hf:∀a,a<n→0≤f a∧f a<2147483648):RFit (rlN f n):=by
 refine⟨fun y hy=>?_,rlN_pos f h0,Nat.le_trans (rlN_len f n) h1⟩
 obtain⟨i,hi,rfl⟩:=List.getElem_of_mem hy
 obtain⟨g0,g1,g2,g3⟩:=(runs_ok f n).each i hi
 have e:=g3 (loR (rlN f n) i).toNat (by omega) (by omega)
 have:=hf (loR (rlN f n) i).toNat (by omega)
 rw[e] at this
 exact⟨by omega,by omega,this.1,this.2⟩
def colF (hf:Nat→Nat→Int) (rw:List Rn) (sA c:Nat):List Rn:=rlN (fun a=>hf (runIx rw (a:Int)) c) sA
def PosS (r:List Rn) (j e:Nat):Prop:=∃h:j<r.length,loR r j≤(e:Int)∧(e:Int)≤(r[j]).1
def PosT (r:List Rn) (j e:Nat):Prop:=∃h:j<r.length,loR r j≤(e:Int)∧(e:Int)<(r[j]).1
def endR (r:List Rn) (j:Nat):Int:=(r.getD j (0,0)).1
def toR (r:List Rn) (j:Nat):Int:=(r.getD j (0,0)).2
theorem endR_at {r:List Rn} {j:Nat} (h:j<r.length):endR r j=(r[j]).1∧toR r j=(r[j]).2:=by
 unfold endR toR
 rw[List.getD_eq_getElem?_getD,List.getElem?_eq_getElem h]
 exact⟨rfl,rfl⟩
section
variable {f:Nat→Int} {n:Nat} {r:List Rn} {j e:Nat}
theorem PosS.go (hr:r=rlN f n) (h:PosS r j e) (he:e<n) (hne:endR r j=(e:Int)):PosT r (j+1) e:=by
 obtain⟨hj,h1,h2⟩:=h
 have ok:=runs_ok f n
 rw[←hr] at ok
 rw[(endR_at hj).1] at hne
 have hj1:j+1<r.length:=by
  rcases Nat.lt_or_ge (j+1) r.length with h3|h3
  ·exact h3
  ·have:r.length=j+1:=by omega
   have hl:=ok.last
   rw[this,loR_succ hj] at hl
   omega
 refine⟨hj1,by rw[loR_succ hj];omega,?_⟩
 have:=(ok.each (j+1) hj1).2.1
 rw[loR_succ hj] at this
 omega
theorem PosS.stay (h:PosS r j e) (hne:endR r j≠(e:Int)):PosT r j e:=by
 obtain⟨hj,h1,h2⟩:=h
 rw[(endR_at hj).1] at hne
 exact⟨hj,h1,by omega⟩
theorem PosT.back (h:PosT r j e) {e1:Nat} (h1:e≤e1) (h2:(e1:Int)≤endR r j):PosS r j e1:=by
 obtain⟨hj,h3,h4⟩:=h
 rw[(endR_at hj).1] at h2
 exact⟨hj,by omega,h2⟩
theorem PosT.val (hr:r=rlN f n) (h:PosT r j e) {c:Nat} (h1:e≤c) (h2:(c:Int)<endR r j):f c=toR r j:=by
 obtain⟨hj,h3,h4⟩:=h
 have ok:=runs_ok f n
 rw[←hr] at ok
 rw[(endR_at hj).1] at h2
 rw[(endR_at hj).2]
 exact(ok.each j hj).2.2.2 c (by omega) h2
theorem PosT.rng (hr:r=rlN f n) (h:PosT r j e):(e:Int)<endR r j∧endR r j≤(n:Int)∧j<r.length:=by
 obtain⟨hj,h3,h4⟩:=h
 have ok:=runs_ok f n
 rw[←hr] at ok
 rw[(endR_at hj).1]
 exact⟨h4,(ok.each j hj).2.2.1,hj⟩
end
def rsV (x:RD) (j:Nat):Value:=.slice (some ⟨x.b,j*2,none⟩) (x.r.length-j) (x.c-j)
def TnB (w:World) (bb:Nat) (BL:List RD) (js:Nat→Nat):Prop:=∃cs,w.heap[bb]? =some (.cells cs 102 (0,0))∧∀k (h:k<BL.length),cs[k]? =some (rsV BL[k] (js k))
def setJ (js:Nat→Nat) (k j:Nat):Nat→Nat:=fun i=>if i=k then j else js i
section
variable {w w':World} {bb:Nat} {BL:List RD} {js:Nat→Nat} {F:Nat→Prop}
theorem TnB.lt (h:TnB w bb BL js):bb<w.heap.size:=by
 obtain⟨cs,h1,_⟩:=h
 exact lt_of_block h1
theorem TnB.kept (h:TnB w bb BL js) (hk:Kept F w w') (hF:¬F bb):TnB w' bb BL js:=by
 have hl:=h.lt
 obtain⟨cs,h1,h2⟩:=h
 exact⟨cs,(hk.block bb hl hF).trans h1,h2⟩
theorem TnB.below (h:TnB w bb BL js) (x:Below w.heap.size w w'):TnB w' bb BL js:=h.kept (F:=fun _=>False) (Kept.of_below x) (fun h=>h)
theorem TnB.cell (h:TnB w bb BL js) {k:Nat} (hk:k<BL.length):w.cell? ⟨bb,k,none⟩=some (rsV BL[k] (js k))∧w.frozen? ⟨bb,k,none⟩=false:=by
 obtain⟨cs,h1,h2⟩:=h
 rw[cell_of_row w bb _ _ _ _ h1]
 exact⟨h2 k hk,frozen_of_row w bb k _ _ h1⟩
theorem TnB.set (h:TnB w bb BL js) {k j:Nat} (hk:k<BL.length):TnB (w.setCell ⟨bb,k,none⟩ (rsV BL[k] j)) bb BL (setJ js k j):=by
 obtain⟨cs,h1,h2⟩:=h
 refine⟨_,block_setCell h1 k _,fun i hi=>?_⟩
 by_cases e:i=k
 ·subst e
  have hlt:i<cs.size:=by
   rcases Nat.lt_or_ge i cs.size with h3|h3
   ·exact h3
   ·have:=h2 i hi
    rw[Array.getElem?_eq_none h3] at this;cases this
  simp[setJ,Array.set!,Array.setIfInBounds,hlt]
 ·simp only[setJ,if_neg e]
  rw[←h2 i hi]
  simp[Array.set!,Array.setIfInBounds]
  split
  ·rw[Array.getElem?_set_ne]
   exact fun h=>e h.symm
  ·rfl
theorem TnB.same (h:TnB w bb BL js) {js':Nat→Nat} (e:∀k,k<BL.length→js' k=js k):TnB w bb BL js':=by
 obtain⟨cs,h1,h2⟩:=h
 exact⟨cs,h1,fun k hk=>by rw[e k hk];exact h2 k hk⟩
end
structure TnX (w:World) (rb:Nat) (rw:List Rn) (bb:Nat) (BL:List RD) (t:Nat) (T:List (List Rn)) (P Q:Nat→Prop) (g:Nat→Int) (hf:Nat→Nat→Int) (sA sb:Nat):Prop where
 rwb:RwB w rb rw
 rwg:rw=rlN g sA
 a0:0<sA
 a1:sA≤256
 b0:0<sb
 b1:sb≤256
 bl:TnB w bb BL (fun _=>0)
 bll:BL.length=rw.length
 blr:∀k (h:k<BL.length),RwB w (BL[k]).b (BL[k]).r∧(BL[k]).r=rlN (hf k) sb∧RdF BL[k]
 hfr:∀k c,k<rw.length→c<sb→0≤hf k c∧hf k c<2147483648
 tb:TbAt w t T P Q
 nd:T.Nodup
 pb:¬P bb
 qb:¬Q bb
 few:T.length+sb<2147483647
structure TnI (w wr:World) (bb:Nat) (BL:List RD) (t:Nat) (T:List (List Rn)) (P Q:Nat→Prop) (hf:Nat→Nat→Int) (rw:List Rn) (sA sb e:Nat) (idx:Nat→Int) (U:List (List Rn)) (P' Q':Nat→Prop) (ov cv:Value) (cr:List Rn):Prop where
 ow:wr.ownsRow w.heap.size 134 2 ov (rlN idx e).length (rnC (rlN idx e))
 cw:wr.ownsRow w.heap.size 134 2 cv cr.length (rnC cr)
 ne:∀k,ov.ownBlock=some k→¬cv.ownBlock=some k
 tb:TbAt wr t (T++U) P' Q'
 qo:∀k,ov.ownBlock=some k→¬Q' k
 qc:∀k,cv.ownBlock=some k→¬Q' k
 ql:∀k,Q' k→k<wr.heap.size
 qn:∀k,Q' k→Q k∨w.heap.size≤k
 nd:(T++U).Nodup
 us:∀r∈U,∃c,c<sb∧r=colF hf rw sA c
 ul:U.length≤e
 ix:∀c,c<e→0≤idx c∧(T++U)[(idx c).toNat]? =some (colF hf rw sA c)
 kp:Kept (fun k=>P k∨k=bb) w wr
 pn:∀k,P' k→P k∨w.heap.size≤k
def TnL (w:World) (bb t:Nat) (T:List (List Rn)) (P Q:Nat→Prop) (hf:Nat→Nat→Int) (rw:List Rn) (sA sb:Nat) (en:Ending) (w':World):Prop:=
 ∃idx U P' g c,en=.returned (.slice (some ⟨g,0,none⟩) (rlN idx sb).length c)∧RwB w' g (rlN idx sb)∧w.heap.size≤g∧(rlN idx sb).length≤c∧c≤maxLen∧TbAt w' t (T++U) P' (fun k=>Q k∨w.heap.size≤k)∧(T++U).Nodup∧(∀r∈U,∃c,c<sb∧r=colF hf rw sA c)∧(∀c,c<sb→0≤idx c∧(T++U)[(idx c).toNat]? =some (colF hf rw sA c))∧Kept (fun k=>P k∨k=bb) w w'∧∀k,P' k→P k∨w.heap.size≤k
section
variable {w:World} {rb:Nat} {rw:List Rn} {bb:Nat} {BL:List RD} {t:Nat} {T:List (List Rn)} {P Q:Nat→Prop} {g:Nat→Int} {hf:Nat→Nat→Int} {sA sb:Nat}
theorem TnX.runs (h:TnX w rb rw bb BL t T P Q g hf sA sb):RunsOk g sA rw:=by rw[h.rwg];exact runs_ok g sA
theorem TnX.pos (h:TnX w rb rw bb BL t T P Q g hf sA sb):0<rw.length∧rw.length≤256:=by
 rw[h.rwg]
 exact⟨rlN_pos g h.a0,Nat.le_trans (rlN_len g sA) h.a1⟩
theorem TnX.nor (h:TnX w rb rw bb BL t T P Q g hf sA sb):NoRun w (fun k=>P k∨k=bb):=fun k hk cs e=>by
 rcases hk with hk|hk
 ·exact h.tb.nr k hk cs e
 ·obtain⟨cs',h1,_⟩:=h.bl
  subst hk
  exact ty_ne h1 e (by decide) rfl
theorem TnX.colfit (h:TnX w rb rw bb BL t T P Q g hf sA sb) {c:Nat} (hc:c<sb):RFit (colF hf rw sA c):=rlN_fit h.a0 h.a1 (fun _ ha=>h.hfr _ c (h.runs.ix_lt ha).1 hc)
theorem TnX.last (h:TnX w rb rw bb BL t T P Q g hf sA sb):∃x:RD,BL[0]? =some x∧w.cell? ⟨bb,0,none⟩=some (.slice (some ⟨x.b,0,none⟩) x.r.length x.c)∧0<x.r.length∧x.r.length≤256∧w.cell? ⟨x.b,(x.r.length-1)*2,none⟩=some (.int .i32 (sb:Int)):=by
 have h0:0<BL.length:=by rw[h.bll];exact h.pos.1
 obtain⟨h1,h2,h3⟩:=h.blr 0 h0
 have hp:=h3.1.pos
 have hl:=h3.1.le
 refine⟨BL[0],List.getElem?_eq_getElem h0,?_,hp,hl,?_⟩
 ·have:=(h.bl.cell h0).1
  simpa [rsV] using this
 ·rw[(h1.cell (i:=(BL[0]).r.length-1) (by omega)).1]
  have ok:=(runs_ok (hf 0) sb).last
  rw[←h2] at ok
  rw[show(BL[0]).r.length=((BL[0]).r.length-1)+1 by omega,loR_succ (by omega)] at ok
  rw[ok]
theorem TnI.below {wr w3:World} {e:Nat} {idx:Nat→Int} {U:List (List Rn)} {P' Q':Nat→Prop} {ov cv:Value} {cr:List Rn} (h:TnI w wr bb BL t T P Q hf rw sA sb e idx U P' Q' ov cv cr) (x:Below wr.heap.size wr w3):TnI w w3 bb BL t T P Q hf rw sA sb e idx U P' Q' ov cv cr:=
 ⟨own_below h.ow x,own_below h.cw x,h.ne,h.tb.below x,h.qo,h.qc,fun k hk=>Nat.lt_of_lt_of_le (h.ql k hk) x.size,h.qn,h.nd,h.us,h.ul,h.ix,h.kp.trans (Kept.of_below x),h.pn⟩
set_option maxRecDepth 100000 in
set_option maxHeartbeats 4000000 in
theorem turn_any {rc bc:Nat} (h:TnX w rb rw bb BL t T P Q g hf sA sb):
 Calls Try.prog 75 #[.slice (some ⟨rb,0,none⟩) rw.length rc,.slice (some ⟨bb,0,none⟩) BL.length bc,.pointer (some ⟨t,0,none⟩)] w fun en w'=>TnL w bb t T P Q hf rw sA sb en w':=by
 obtain⟨i5,hi5,hz50,hz51,hz52⟩:=info_parts Try.info134
 obtain⟨hn0,hn1⟩:=h.pos
 have HH:=hide h
 obtain⟨x0,hx0,c0,hx1,hx2,c1⟩:=h.last
 have hb0:=h.b0
 have hb1:=h.b1
 have hbl:=h.bll
 have hbl0:(0:Int)<(BL.length:Int):=by omega
 clear h hx0
 have HBL:=hide hbl
 clear hbl
 have e1:IntKind.i64.wrap ((x0.r.length:Int)-1)=((x0.r.length-1:Nat):Int):=by simp[IntKind.wrap,IntKind.bits,IntKind.signed];omega
 have e2:((x0.r.length-1:Nat):Int)<(x0.r.length:Int):=by omega
 go_enter Try.func75,Try.ntmps75
 go_upto_region 3 with(at_make;refine wpList_make_own _ rfl (.const (.int .i64 0)) (.tmp 16) 102 rfl w.heap.size 134 i5 (.agg #[.int .i32 0,.int .i32 0]) 2 Try.underlying102 hi5 hz50 hz51 .i64 .i64 _ rw.length rfl rfl (by push_cast;rfl) (by rw[hz52];omega) (by unfold maxLen;omega) (Nat.le_refl _) ?_;intro w1 m1 m2;have M1:=hide m1;have M2:=hide (below_of_grown m2);clear m1 m2)
 have q0:=(M2.out.cell (p:=⟨bb,0,none⟩) HH.out.bl.lt).trans c0
 have q1:=(M2.out.cell (p:=⟨x0.b,(x0.r.length-1)*2,none⟩) (World.block_lt_of_cell? _ _ c1)).trans c1
 go_quiet (fail)
 have X2:Hid (Below w.heap.size w (w1.drewN nq)):=below_drewN M2.out nq
 have M3:Hid ((w1.drewN nq).ownsRow w.heap.size 134 2 (.slice (some ⟨w.heap.size,0,none⟩) 0 rw.length) 0 []):=own_below M1.out (below_drewN (Below.refl _ _) nq)
 clear q0 q1 c0 c1 e1 e2 hx1 hx2 M1 M2 hbl0
 generalize w1.drewN nq=w2 at *
 have ST:Hid (∃idx U P' Q' js cr,TnI w w2 bb BL t T P Q hf rw sA sb 0 idx U P' Q' (.slice none 0 0) (.slice (some ⟨w.heap.size,0,none⟩) 0 rw.length) cr∧cr.length=0∧TnB w2 bb BL js∧∀i (h:i<BL.length),PosS (BL[i]).r (js i) 0):=by
  refine⟨fun _=>0,[],P,fun k=>Q k∧k<w.heap.size,fun _=>0,[],⟨World.ownsRow_nil _ _ _ _,M3.out,fun k hk=>(by cases hk),(by rw[List.append_nil];exact HH.out.tb.low.below X2.out),fun k hk=>(by cases hk),fun k hk hq=>(by have e:w.heap.size=k:=Option.some.inj hk;have:=hq.2;omega),fun k hk=>Nat.lt_of_lt_of_le hk.2 X2.out.size,fun k hk=>.inl hk.1,(by rw[List.append_nil];exact HH.out.nd),fun r hr=>(by cases hr),Nat.zero_le _,fun c hc=>(by omega),Kept.of_below X2.out,fun k hk=>.inl hk⟩,rfl,HH.out.bl.below X2.out,fun i hi=>?_⟩
  obtain⟨h1,h2,h3⟩:=HH.out.blr i hi
  have hp:=h3.1.pos
  have hq:=(h3.1.rn _ (List.getElem_mem hp)).1
  exact(show PosS (BL[i]).r 0 0 from⟨hp,by rw[loR_zero];exact Int.le_refl _,by omega⟩)
 go_wp2
 go_loopw [7,8,10] (fun ov cv ev wr=>∃e:Nat,e≤sb∧ev=.int .i32 (e:Int)∧∃ca cn cc,cv=.slice ca cn cc∧∃idx U P' Q' js cr,Hid (TnI w wr bb BL t T P Q hf rw sA sb e idx U P' Q' ov (.slice ca cn cc) cr)∧Hid (cr.length=cn)∧Hid (TnB wr bb BL js)∧Hid (∀i (h:i<BL.length),PosS (BL[i]).r (js i) e)) (fun _ _ x _=>sb-(RowKit.intOf x).toNat)
 case atStart=>
  obtain⟨idx,U,P',Q',js,cr,h1,h2,h3,h4⟩:=ST.out
  exact⟨0,Nat.zero_le _,rfl,_,_,_,rfl,idx,U,P',Q',js,cr,hide h1,hide h2,hide h3,hide h4⟩
 case round=>
  obtain⟨e,he,rfl,ca,cn,cc,rfl,idx,U,P',Q',js,cr,TI,CN,TB,PS⟩:=hrel
  clear ST M3 X2
  by_cases hlt:e<sb
  ·have hlt':(e:Int)<(sb:Int):=by omega
   have hcc:=own_cap' (by have:=TI.out.cw;rw[CN.out] at this;exact this)
   have hc0:(0:Int)≤(cc:Int):=by omega
   go_upto_region 7 with fail
   go_quiet (fail)
   have X3:Hid (Below wr.heap.size wr (wr.drewN nq)):=below_drewN (Below.refl _ _) nq
   have TI3:=hide (TI.out.below X3.out)
   have TB3:=hide (TB.out.below X3.out)
   have OC3:Hid ((wr.drewN nq).ownsRow w.heap.size 134 2 (.slice ca 0 cc) 0 []):=own_cut0 (by have:=TI3.out.cw;rw[CN.out] at this;exact this)
   clear TI TB CN X3 hcc hc0
   generalize wr.drewN nq=w3 at *
   go_upto_block 2 with fail
   go_cut [8,10] (fun v8 v10 wx=>∃(e1:Nat) (js':Nat→Nat),e<e1∧e1≤sb∧v10=.int .i32 (e1:Int)∧Hid (wx.ownsRow w.heap.size 134 2 v8 (colF hf rw sA e).length (rnC (colF hf rw sA e)))∧Hid (TnB wx bb BL js')∧Hid (∀i (h:i<BL.length),PosT (BL[i]).r (js' i) e∧(e1:Int)≤endR (BL[i]).r (js' i))∧Hid (Kept (fun k=>k=bb∨(Value.slice ca 0 cc).ownBlock=some k) w3 wx)∧Hid (∀k,v8.ownBlock=some k→(Value.slice ca 0 cc).ownBlock=some k∨w3.heap.size≤k))
   ·go_wp2
    go_loopw [8,10,38] (fun v8 v10 v38 wx=>∃(k e1:Nat) (js':Nat→Nat),k≤rw.length∧v38=.int .i64 (k:Int)∧e<e1∧e1≤sb∧v10=.int .i32 (e1:Int)∧Hid (wx.ownsRow w.heap.size 134 2 v8 (rlN (fun a=>hf (runIx rw (a:Int)) e) (loR rw k).toNat).length (rnC (rlN (fun a=>hf (runIx rw (a:Int)) e) (loR rw k).toNat)))∧Hid (TnB wx bb BL js')∧Hid (∀i (h:i<BL.length),(i<k→PosT (BL[i]).r (js' i) e∧(e1:Int)≤endR (BL[i]).r (js' i))∧(k≤i→PosS (BL[i]).r (js' i) e))∧Hid (Kept (fun k=>k=bb∨(Value.slice ca 0 cc).ownBlock=some k) w3 wx)∧Hid (∀k,v8.ownBlock=some k→(Value.slice ca 0 cc).ownBlock=some k∨w3.heap.size≤k)) (fun _ _ x _=>rw.length-(RowKit.intOf x).toNat)
    case atStart=>exact⟨0,sb,js,Nat.zero_le _,rfl,hlt,Nat.le_refl _,rfl,OC3,TB3,hide (fun i hi=>⟨fun h=>by omega,fun _=>PS.out i hi⟩),hide (Kept.refl _ _),hide (fun k hk=>.inl hk)⟩
    case round=>
     obtain⟨k,e1,js',hk,rfl,he1,he2,rfl,OC,TB4,PP,KP,CB⟩:=hrel
     by_cases hkl:k<rw.length
     ·have hkl':(k:Int)<(rw.length:Int):=by omega
      have hkb:k<BL.length:=by rw[HBL.out];exact hkl
      have hkb':(k:Int)<(BL.length:Int):=by omega
      have RK:Hid (∀b r,RwB w b r→RwB wr b r):=fun b r h=>(h.keptT TI3.out.kp HH.out.nor).kept KP.out (fun hF=>by
       rcases hF with hF|hF
       ·obtain⟨cs,h1,_⟩:=h.keptT TI3.out.kp HH.out.nor
        obtain⟨cs',h2,_⟩:=TB3.out
        exact ty_ne h1 h2 (by decide) hF
       ·have h1:=(World.ownsRow.lt OC3.out _ hF).1
        have h2:=h.lt
        omega)
      obtain⟨q1,q2⟩:=(RK.out _ _ HH.out.rwb).cell hkl
      obtain⟨b1,b2,b3⟩:=HH.out.blr k hkb
      have B1:=hide (RK.out _ _ b1)
      have B2:=hide b2
      have B3:=hide b3
      have HC:=hide (fun(v:Int) hG=>HH.out.runs.col (G:=fun a=>hf (runIx rw (a:Int)) e) (v:=v) hkl hG)
      have HIX:=hide (fun(a:Nat) (h1:loR rw k≤(a:Int)) (h2:(a:Int)<(rw[k]).1)=>HH.out.runs.ix hkl h1 h2)
      have HP:=hide ((PP.out k hkb).2 (Nat.le_refl _))
      have TB5:=TB4.out.cell hkb
      generalize hxk:BL[k]=x at *
      have HXK:=hide hxk
      clear hxk b1 b2 b3
      have q3:=TB5.1
      have q3f:=TB5.2
      clear TB5
      generalize hjk:js' k=j at *
      have HJK:=hide hjk
      clear hjk
      obtain⟨hj,hj1,hj2⟩:=HP.out
      have hlc:=B3.out.2.1
      have hlm:=B3.out.2.2
      go_upto_region 11 with fail
      have Y1:Hid (Below wr.heap.size wr (wr.alloc (.cells #[.int .i32 (rw[k]).1,.int .i32 (rw[k]).2] 134))):=al (Below.refl _ _) _
      have p0:(wr.alloc (.cells #[.int .i32 (rw[k]).1,.int .i32 (rw[k]).2] 134)).cell? ⟨wr.heap.size,0,none⟩=some (.int .i32 (rw[k]).1):=by simp
      have OC6:=hide (own_below OC.out Y1.out)
      have TB6:=hide (TB4.out.below Y1.out)
      have B6:=hide (B1.out.below Y1.out)
      have KP6:=hide (KP.out.trans (Kept.of_below Y1.out))
      have LZ:Hid (wr.heap.size<(wr.alloc (.cells #[.int .i32 (rw[k]).1,.int .i32 (rw[k]).2] 134)).heap.size):=by unfold Hid;simp
      have NB:Hid (wr.heap.size≠bb):=fun e=>by have:=TB4.out.lt;omega
      have NC:Hid (∀z,u8.ownBlock=some z→z≠wr.heap.size):=fun z hz e=>by have:=(World.ownsRow.lt OC.out z hz).2;omega
      have q3a:Hid ((wr.alloc (.cells #[.int .i32 (rw[k]).1,.int .i32 (rw[k]).2] 134)).cell? ⟨bb,k,none⟩=some (rsV x j)):=(Y1.out.cell (p:=⟨bb,k,none⟩) TB4.out.lt).trans q3
      have q3b:Hid ((wr.alloc (.cells #[.int .i32 (rw[k]).1,.int .i32 (rw[k]).2] 134)).frozen? ⟨bb,k,none⟩=false):=by
       obtain⟨cs,h1,_⟩:=TB6.out
       exact frozen_of_row _ bb k _ _ h1
      clear q1 q2 q3 q3f OC TB4 B1 KP Y1
      generalize wr.heap.size=nb at *
      generalize wr.alloc (.cells #[.int .i32 (rw[k]).1,.int .i32 (rw[k]).2] 134)=wa at *
      have q3:=q3a.out
      have q3f:=q3b.out
      obtain⟨q4,-⟩:=B6.out.cell hj
      have hee:=(endR_at hj).1
      rw[←hee] at q4
      clear hee q3a q3b
      unfold rsV at q3
      have hm0:0<x.r.length-j:=by omega
      have hm0':(0:Int)<((x.r.length-j:Nat):Int):=by omega
      have hm1:x.r.length-j≤x.c-j:=by omega
      have hm2:(1:Int)≤((x.r.length-j:Nat):Int):=by omega
      have hm3:((x.r.length-j:Nat):Int)≤((x.c-j:Nat):Int):=by omega
      have HM:Hid (rsV x (j+1)=.slice (some ⟨x.b,j*2+2,none⟩) (x.r.length-j-1) (x.c-j-1)):=by
       unfold Hid rsV
       rw[Nat.succ_mul,Nat.sub_add_eq,Nat.sub_add_eq]
      have HM0:Hid (rsV x j=.slice (some ⟨x.b,j*2,none⟩) (x.r.length-j) (x.c-j)):=rfl
      have HAD:Hid (endR x.r j=(e:Int)→¬x.c-j=1∧PosT x.r (j+1) e):=fun h=>by
       have h1:=PosS.go B2.out HP.out hlt h
       have h2:=h1.1
       exact⟨by omega,h1⟩
      generalize x.r.length-j=mm at *
      generalize x.c-j=mc at *
      go_upto_if 52 with fail
      go_cut [14] (fun v14 wx=>∃j',v14=rsV x j'∧Hid (PosT x.r j' e)∧Hid (TnB wx bb BL (setJ js' k j'))∧Hid (Kept (fun i=>i=bb) wa wx))
      ·by_cases hadv:endR x.r j=(e:Int)
       ·obtain⟨hmc,hpt⟩:=HAD.out hadv
        have HPT:=hide hpt
        have hadvb:(endR x.r j==(e:Int))=true:=by simp[hadv]
        clear hpt
        go_wp2
        go_meet
        refine⟨j+1,HM.out.symm,HPT,?_,hide ((Kept.refl (fun i=>i=bb) wa).setCell (p:=⟨bb,k,none⟩) rfl _)⟩
        have:=TB6.out.set (j:=j+1) hkb
        rw[HXK.out,HM.out] at this
        exact this
       ·go_wp2
        go_meet
        refine⟨j,HM0.out.symm,hide (HP.out.stay hadv),hide (TB6.out.same (fun i _=>?_)),hide (Kept.refl _ _)⟩
        unfold setJ
        split
        ·rename_i h1;rw[h1];exact HJK.out.symm
        ·rfl
      obtain⟨j',rfl,PT,TB7,K7⟩:=hcut
      obtain⟨h71,h72,h73⟩:=PosT.rng B2.out PT.out
      have H71:=hide h71
      have B7:Hid (RwB wc x.b x.r):=B6.out.kept K7.out (fun e=>by
       obtain⟨cs,h1,_⟩:=B6.out
       obtain⟨cs',h2,_⟩:=TB6.out
       exact ty_ne h1 h2 (by decide) e)
      have OC7:=hide (own_kept OC6.out K7.out (fun z hz e=>by
       obtain⟨cs,h1⟩:=own_ty OC6.out _ hz
       obtain⟨cs',h2,_⟩:=TB6.out
       exact ty_ne h1 h2 (by decide) e))
      have KP7:=hide (KP6.out.trans_new K7.out (fun z _ e=>.inl e))
      have p7:wc.cell? ⟨nb,0,none⟩=some (.int .i32 (rw[k]).1):=(K7.out.cell (p:=⟨nb,0,none⟩) LZ.out NB.out).trans p0
      obtain⟨q5,q6⟩:=B7.out.cell h73
      rw[←(endR_at h73).1] at q5
      rw[←(endR_at h73).2] at q6
      have HV:Hid (hf k e=toR x.r j'):=PosT.val B2.out PT.out (Nat.le_refl _) h71
      clear p0 q3 q3f q4 B6 OC6 KP6 K7 TB6 HM HM0 HAD HP hj hj1 hj2 hm0 hm0' hm1 hm2 hm3 hlc hlm
      have hn7:0<x.r.length-j':=by omega
      have hn7':(0:Int)<((x.r.length-j':Nat):Int):=by omega
      unfold rsV
      generalize x.r.length-j'=mm2 at *
      generalize x.c-j'=mc2 at *
      obtain⟨e2,he2',hee2⟩:∃e2:Nat,endR x.r j'=(e2:Int)∧(e<e2∧e2≤sb):=⟨(endR x.r j').toNat,by omega,by omega,by omega⟩
      rw[he2'] at q5
      have HE2:=hide he2'
      clear he2' h71 h72
      go_upto_region 16 with fail
      have he3:(if e2<e1 then(e2:Int) else(e1:Int))=((min e2 e1:Nat):Int):=by split<;>omega
      rw[he3]
      obtain⟨e3,hm3,hm4,hm5⟩:∃e3,min e2 e1=e3∧(e3≤e2∧e3≤e1)∧(e<e3∧e3≤sb):=⟨min e2 e1,rfl,⟨by omega,by omega⟩,by omega,by omega⟩
      rw[hm3]
      have HM45:=hide (And.intro hm4 hm5)
      clear he3 hm3 hm4 hm5 hee2
      have p8:wc.drew.cell? ⟨nb,0,none⟩=some (.int .i32 (rw[k]).1):=p7
      have q7:wc.drew.cell? ⟨x.b,j'*2+1,none⟩=some (.int .i32 (toR x.r j')):=q6
      have XD:Hid (Below wc.heap.size wc wc.drew):=(Below.refl _ _).drew
      have OC8:=hide (own_below OC7.out XD.out)
      have TB8:=hide (TB7.out.below XD.out)
      have KP8:=hide (KP7.out.trans (Kept.of_below XD.out))
      clear p7 q5 q6 OC7 TB7 KP7 B7 XD
      refine wp_unt (S:=fun V=>V=wc.drew) 7 (by kernel_rfl) ?_
      generalize wc.drew=wd at *
      have HJO:=hide (join_any (rw[k]).1 (toR x.r j') OC8.out (Nat.le_trans (rlN_len _ _) (by have:=(HH.out.runs.each k hkl).2.1;have:=(HH.out.runs.each k hkl).2.2.1;have:=HH.out.a1;omega)) (Nat.le_trans TI3.out.kp.size KP8.out.size))
      refine UntH.tk 0 rfl 65 rfl (fun w' hw'=>by subst hw';go_simp;first|done|rfl) ?_
      refine UntH.tk 1 rfl 66 rfl (fun w' hw'=>by subst hw';go_simp;first|done|rfl) ?_
      refine UntH.tk 2 rfl 67 rfl (fun w' hw'=>by subst hw';go_simp;first|done|rfl) ?_
      refine UntH.tk 3 rfl 68 rfl (fun w' hw'=>by subst hw';go_simp;first|done|rfl) ?_
      refine UntH.tk 4 rfl 69 rfl (fun w' hw'=>by subst hw';go_simp;first|done|rfl) ?_
      refine UntH.tk 5 rfl 70 rfl (fun w' hw'=>by subst hw';go_simp;first|done|rfl) ?_
      refine UntH.tk 6 rfl 71 rfl (fun w' hw'=>by subst hw';go_simp;first|done|rfl) ?_
      try simp only[Act.put,List.setIfInBounds_toArray,List.set_cons_zero,List.set_cons_succ]
      refine UntH.stepf (i:=7) (by kernel_rfl) rfl (by kernel_rfl) (fun K hK=>?_)
      go_simp
      refine HJO.out.mono ?_
      rintro en w9 ⟨v9,rfl,o9,g9⟩
      obtain⟨a9,c9,hv9,_⟩:=own_shape o9
      subst hv9
      have O9:=hide o9
      have G9:=hide g9
      refine hK _ _ ?_
      clear hK K o9 g9 HJO p8 q7
      try simp only[Act.put,List.setIfInBounds_toArray,List.set_cons_zero,List.set_cons_succ]
      refine UntH.stepf (i:=8) (by kernel_rfl) rfl (by kernel_rfl) (fun K hK=>?_)
      go_simp
      refine hK _ _ ?_
      clear hK K
      refine UntH.end (by kernel_rfl) ?_
      go_wp2
      go_roundw
      case rel=>
       have hv:joinR (rlN (fun a=>hf (runIx rw (a:Int)) e) (loR rw k).toNat) (rw[k]).1 (toR x.r j')=rlN (fun a=>hf (runIx rw (a:Int)) e) (loR rw (k+1)).toNat:=HC.out _ (fun a h1 h2=>by
        show hf (runIx rw (a:Int)) e=_
        rw[HIX.out a h1 h2]
        exact HV.out)
       rw[hv] at O9
       have TB9:TnB w9 bb BL (setJ js' k j'):=TB8.out.kept G9.out.1 (fun hF=>by
        obtain⟨cs,h1⟩:=own_ty OC8.out _ hF
        obtain⟨cs',h2,_⟩:=TB8.out
        exact ty_ne h1 h2 (by decide) rfl)
       refine⟨k+1,e3,setJ js' k j',by omega,by go_num,HM45.out.2.1,HM45.out.2.2,rfl,by rw[hv];exact O9,hide TB9,hide (fun i hi=>⟨fun h1=>?_,fun h1=>?_⟩),hide (KP8.out.trans_new G9.out.1 (fun z hz hF=>?_)),hide (fun z hz=>?_)⟩
       ·unfold setJ
        by_cases hik:i=k
        ·subst hik
         rw[if_pos rfl,HXK.out]
         exact⟨PT.out,by rw[HE2.out];have:=HM45.out.1.1;omega⟩
        ·rw[if_neg hik]
         obtain⟨h2,h3⟩:=(PP.out i hi).1 (by omega)
         exact⟨h2,by have:=HM45.out.1.2;omega⟩
       ·unfold setJ
        rw[if_neg (by omega)]
        exact(PP.out i hi).2 (by omega)
       ·exact .inr ((CB.out z hF).resolve_right (by omega))
       ·rcases G9.out.2 z hz with h1|h1
        ·exact CB.out z h1
        ·exact .inr (Nat.le_trans KP8.out.size h1)
      case measure=>simp[RowKit.intOf];omega
     ·have hkl':¬(k:Int)<(rw.length:Int):=by omega
      obtain rfl:k=rw.length:=by omega
      go_wp2
      go_meet
      refine⟨e1,js',he1,he2,rfl,?_,TB4,hide (fun i hi=>(PP.out i hi).1 (by rw[←HBL.out];exact hi)),KP,CB⟩
      have hl:=HH.out.runs.last
      have hl2:(loR rw rw.length).toNat=sA:=by omega
      rw[hl2] at OC
      exact OC
   obtain⟨e1,js',he1,he2,rfl,OC4,TB4,PP,KP,CB⟩:=hcut
   have TBX:Hid (TbAt wc t (T++U) P' Q'):=TI3.out.tb.keptQ KP.out (fun z hz hF=>by
    rcases hF with hF|hF
    ·subst hF
     rcases TI3.out.pn _ hz with h1|h1
     ·exact HH.out.pb h1
     ·have:=HH.out.bl.lt
      omega
    ·obtain⟨cs,h1⟩:=own_ty OC3.out _ hF
     exact TI3.out.tb.nr z hz cs h1) (fun z hz hF=>by
    rcases hF with hF|hF
    ·subst hF
     rcases TI3.out.qn _ hz with h1|h1
     ·exact HH.out.qb h1
     ·have:=HH.out.bl.lt
      omega
    ·rw[own_blk0 (n:=cn)] at hF
     exact TI3.out.qc z hF hz)
   have OW4:Hid (wc.ownsRow w.heap.size 134 2 u7 (rlN idx e).length (rnC (rlN idx e))):=own_kept TI3.out.ow KP.out (fun z hz hF=>by
    rcases hF with hF|hF
    ·obtain⟨cs,h1⟩:=own_ty TI3.out.ow _ hz
     obtain⟨cs',h2,_⟩:=TB3.out
     exact ty_ne h1 h2 (by decide) hF
    ·rw[own_blk0 (n:=cn)] at hF
     exact TI3.out.ne z hz hF)
   have KP4:Hid (Kept (fun k=>P k∨k=bb) w wc):=TI3.out.kp.trans_new KP.out (fun z hz hF=>by
    rcases hF with hF|hF
    ·exact .inr hF
    ·have:=(World.ownsRow.lt OC3.out z hF).1
     omega)
   have CQ:Hid (∀k,u8.ownBlock=some k→¬Q' k):=fun k hk hq=>by
    rcases CB.out k hk with h1|h1
    ·rw[own_blk0 (n:=cn)] at h1
     exact TI3.out.qc k h1 hq
    ·have:=TI3.out.ql k hq
     omega
   have CO:Hid (∀k,u7.ownBlock=some k→¬u8.ownBlock=some k):=fun k hk hq=>by
    rcases CB.out k hq with h1|h1
    ·rw[own_blk0 (n:=cn)] at h1
     exact TI3.out.ne k hk h1
    ·have:=(World.ownsRow.lt TI3.out.ow k hk).2
     omega
   have SZ4:=hide KP.out.size
   have CF:=hide (HH.out.colfit hlt)
   obtain⟨g8,c8,hv8,hg8,hr8,hc81,hc82⟩:=RwB.of_own OC4.out CF.out.pos
   subst hv8
   have R8:=hide hr8
   have PL:=hide (TBX.out.place (cap:=c8) hr8 CF.out (by rw[List.length_append];have:=TI3.out.ul;have:=HH.out.few;omega))
   obtain⟨oa,oc,hov,hop⟩:=own_shape OW4.out
   subst hov
   clear hr8 hg8 hc81 hc82 OC3 hop
   go_wp2_with (first
    |(go_at_call 84;refine PL.out.mono ?_;rintro en w5 ⟨i5,rfl,hix,P5,tb5,k5,p5⟩;have IX:=hide hix;have TB5:=hide tb5;have K5:=hide k5;have P5':=hide p5;have OW5:=hide (own_kept OW4.out k5 (fun z hz hF=>(by obtain⟨cs,h1⟩:=own_ty OW4.out _ hz;exact TBX.out.nr z hF cs h1)));have HJO:=hide (join_any (e1:Int) (i5:Int) OW5.out (Nat.le_trans (rlN_len _ _) (by omega)) (Nat.le_trans KP4.out.size k5.size));clear hix tb5 k5 p5)
    |(go_at_call 73;refine HJO.out.mono ?_;rintro en w6 ⟨v6,rfl,o6,g6⟩;have O6:=hide o6;have G6:=hide g6;clear o6 g6))
   go_roundw
   case rel=>
    obtain⟨V,hV,hVc⟩:=plc_ext (T++U) (colF hf rw sA e)
    have hcol:∀c,e≤c→c<e1→colF hf rw sA c=colF hf rw sA e:=fun c h1 h2=>by
     unfold colF
     refine rlN_congr _ (fun a ha=>?_)
     have hk:=(HH.out.runs.ix_lt ha).1
     rw[←HBL.out] at hk
     obtain⟨p1,p2⟩:=PP.out _ hk
     have b2:=(HH.out.blr _ hk).2.1
     rw[PosT.val b2 p1 h1 (by omega),PosT.val b2 p1 (Nat.le_refl _) (by omega)]
    have hout:rlN (fun c=>if c<e then idx c else(i5:Int)) e1=joinR (rlN idx e) (e1:Int) (i5:Int):=by
     rw[rlN_jump' (m:=e) he1 (fun c h1 h2=>by simp only[if_neg (show ¬c<e by omega),if_neg (Nat.lt_irrefl e)])]
     simp only[if_neg (Nat.lt_irrefl e)]
     congr 1
     exact rlN_congr e (fun c hc=>if_pos hc)
    have hbp:¬P' bb:=fun hz=>by
     rcases TI3.out.pn _ hz with h1|h1
     ·exact HH.out.pb h1
     ·have:=HH.out.bl.lt
      omega
    have hbo:¬(Value.slice oa (rlN idx e).length oc).ownBlock=some bb:=fun hz=>by
     have:=(World.ownsRow.lt OW4.out bb hz).1
     have:=HH.out.bl.lt
     omega
    have tb6:TbAt w6 t (T++(U++V)) P5 (fun k=>(Q' k∨wc.heap.size≤k)∧k<w5.heap.size):=by
     have h1:=TB5.out.low
     rw[hV,List.append_assoc] at h1
     refine h1.keptQ G6.out.1 (fun z hz hF=>?_) (fun z hz hF=>?_)
     ·obtain⟨cs,h2⟩:=own_ty OW5.out _ hF
      exact TB5.out.nr z hz cs h2
     ·rcases hz.1 with h2|h2
      ·exact TI3.out.qo z hF h2
      ·have:=(World.ownsRow.lt OW4.out z hF).2
       omega
    have cw5:=own_kept OC4.out K5.out (fun z hz hF=>by
     obtain⟨cs,h1⟩:=own_ty OC4.out _ hz
     exact TBX.out.nr z hF cs h1)
    have cw6:=own_kept cw5 G6.out.1 (fun z hz hF=>CO.out z hF hz)
    have hnd:(T++(U++V)).Nodup:=by
     rw[←List.append_assoc,←hV]
     exact plc_nodup TI3.out.nd _
    refine⟨e1,he2,rfl,_,_,_,rfl,fun c=>if c<e then idx c else(i5:Int),U++V,P5,fun k=>(Q' k∨wc.heap.size≤k)∧k<w5.heap.size,js',colF hf rw sA e,hide ⟨by rw[hout];exact O6.out,cw6,fun k hk hq=>?_,tb6,fun k hk hq=>?_,fun k hk hq=>?_,fun k hk=>Nat.lt_of_lt_of_le hk.2 G6.out.1.size,fun k hk=>?_,hnd,fun r hr=>?_,?_,fun c hc=>?_,?_,fun k hk=>?_⟩,hide rfl,?_,hide (fun i hi=>?_)⟩
    ·rcases G6.out.2 k hk with h1|h1
     ·exact CO.out k h1 hq
     ·have:=(World.ownsRow.lt cw5 k hq).2
      omega
    ·rcases G6.out.2 k hk with h1|h1
     ·rcases hq.1 with h2|h2
      ·exact TI3.out.qo k h1 h2
      ·have:=(World.ownsRow.lt OW4.out k h1).2
       omega
     ·have:=hq.2
      omega
    ·rcases hq.1 with h2|h2
     ·exact CQ.out k hk h2
     ·have:=(World.ownsRow.lt OC4.out k hk).2
      omega
    ·rcases hk.1 with h1|h1
     ·exact TI3.out.qn k h1
     ·exact .inr (Nat.le_trans KP4.out.size h1)
    ·rcases List.mem_append.1 hr with hr|hr
     ·exact TI3.out.us r hr
     ·exact⟨e,hlt,hVc r hr⟩
    ·have hl1:(plc (T++U) (colF hf rw sA e)).length≤(T++U).length+1:=by
      unfold plc
      split
      ·omega
      ·simp only[List.length_append,List.length_singleton];omega
     rw[hV] at hl1
     have:=TI3.out.ul
     simp only[List.length_append] at hl1 ⊢
     omega
    ·by_cases hce:c<e
     ·simp only[if_pos hce]
      obtain⟨h1,h2⟩:=TI3.out.ix c hce
      refine⟨h1,?_⟩
      rw[←List.append_assoc,List.getElem?_append_left]
      ·exact h2
      ·rcases Nat.lt_or_ge (idx c).toNat (T++U).length with h3|h3
       ·exact h3
       ·rw[List.getElem?_eq_none h3] at h2;cases h2
     ·simp only[if_neg hce]
      refine⟨by omega,?_⟩
      rw[hcol c (by omega) hc,Int.toNat_natCast,←List.append_assoc,←hV]
      exact IX.out
    ·refine(KP4.out.trans_new K5.out (fun z hz hF=>?_)).trans_new G6.out.1 (fun z hz hF=>?_)
     ·rcases TI3.out.pn z hF with h1|h1
      ·exact .inl h1
      ·omega
     ·have:=(World.ownsRow.lt OW4.out z hF).1
      omega
    ·rcases P5'.out k hk with h1|h1
     ·exact TI3.out.pn k h1
     ·exact .inr (Nat.le_trans KP4.out.size h1)
    ·exact hide ((TB4.out.kept K5.out hbp).kept G6.out.1 hbo)
    ·obtain⟨p1,p2⟩:=PP.out i hi
     exact p1.back (by omega) p2
   case measure=>simp[RowKit.intOf];omega
  ·have hlt':¬(e:Int)<(sb:Int):=by omega
   obtain rfl:e=sb:=by omega
   go_wp2
   go_ret
   obtain⟨g1,c1,hv,hg,hr,h1,h2⟩:=RwB.of_own TI.out.ow (rlN_pos _ hb0)
   subst hv
   exact⟨idx,U,P',g1,c1,rfl,hr,hg,h1,h2,TI.out.tb.mono TI.out.qn,TI.out.nd,TI.out.us,TI.out.ix,TI.out.kp,TI.out.pn⟩
end
end Go.Proofs.Ytnddhkhmbjeefaa

