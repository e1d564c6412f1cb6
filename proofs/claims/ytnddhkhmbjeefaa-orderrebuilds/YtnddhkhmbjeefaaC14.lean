/-
  newLifting by its contract: the walk. Condition: rows that may be, at most 12 layers.
-/
import Derived.Test.YtnddhkhmbjeefaaC13
import Derived.Laws.ResultCell
namespace Go.Proofs.Ytnddhkhmbjeefaa
open Go.RowKit Go.Lib Go.Maps
def NlL (S:List Int) (B ob oo oc:Nat) (X:List LA) (b:LA) (w:World) (e:Ending) (w':World):Prop:=
 ∃l,e=.returned (.pointer (some ⟨l,0,none⟩))∧∃a P Q,a.l=l∧a.ob=ob∧a.oo=oo∧a.oc=oc∧LfS w' B a X b (tab0 S (layL X)) (fun _ _=>none) P Q∧Below w.heap.size w w'∧∀k,LfF a X.length P k→w.heap.size≤k
section
variable {S:List Int} {w:World} {B ob oo oc:Nat} {X:List LA} {b:LA} {T:List Lay}
theorem NlI.done {wr:World} {l:Nat} {kv mv:Value} {tb kn kk:Nat→Nat} {P:Nat→Nat→Prop} (h:NlI S w wr B l ob oo oc X X.length kv mv tb kn kk P) (h0:0<X.length) (hL:LaysAt w B ob oo (X++[b])) (hB:B≤w.heap.size):NlL S B ob oo oc X b w (.returned (.pointer (some ⟨l,0,none⟩))) wr:=by
 rcases h.kno.2 with⟨_,h2⟩|⟨kb,kc,kcs,rfl,hb1,hg1,_,_,_,h41⟩
 ·omega
 rcases h.mad.2 with⟨_,h2⟩|⟨mb,mc,mcs,rfl,hb2,hg2,_,_,_,h42⟩
 ·omega
 have hgx:∀i (hi:i<X.length),(X.map fun x=>x.Rs.length).getD i 0=(X[i]).Rs.length:=fun i hi=>by
  simp[List.getD_eq_getElem?_getD,List.getElem?_eq_getElem hi]
 refine⟨l,rfl,⟨l,ob,oo,oc,kb,kc,mb,mc,tb,kn,kk⟩,P,fun _ _=>True,rfl,rfl,rfl,rfl,⟨h.blk,hL.below (h.bel.mono hB),⟨kcs,hg1,fun i hi=>?_⟩,fun i hi=>?_,fun i t x _ hx=>(by cases hx),⟨mcs,hg2,fun i hi=>?_⟩,fun i hi=>?_,by simp[tab0],h.apt,h.kpt,h.kin,fun j hj=>⟨(h.fx j hj).1,(h.fx j hj).2.1 kb rfl,(h.fx j hj).2.2 mb rfl⟩,fun j k hj hp=>Nat.le_trans hB (h.hi j k hj hp).1,fun j hj=>Nat.le_trans hB (h.hk j hj),Nat.le_trans hB h.bel.size,⟨Nat.le_trans hB h.hl,Nat.le_trans hB hb1,Nat.le_trans hB hb2⟩⟩,h.bel,fun k hk=>?_⟩
 ·have:=congrArg (fun l=>l[i]?) h41
  simp only[Nat.mul_one] at this
  rw[List.getElem?_take_of_lt hi,Array.getElem?_toList] at this
  rw[this,List.getElem?_map,List.getElem?_range hi]
  simp only[Option.map_some]
  rw[hgx i hi]
 ·rw[←hgx i hi];exact h.knb i hi
 ·have:=congrArg (fun l=>l[i]?) h42
  simp only[Nat.mul_one] at this
  rw[List.getElem?_take_of_lt hi,Array.getElem?_toList] at this
  rw[this,List.getElem?_map,List.getElem?_range hi]
  rfl
 ·have e:((tab0 S (layL X)).getD i (0,[])).2=[[(szL S (X[i]).lv,0)],[(szL S (X[i]).lv,1)]]:=by
   simp[tab0,List.getD_eq_getElem?_getD,List.getElem?_eq_getElem hi,LA.lay]
  rw[e]
  exact h.tab i hi hi
 ·obtain⟨j,hj,h1|h1⟩:=hk
  ·exact(h.hi j k hj h1).1
  ·rw[h1];exact h.hk j hj
set_option maxRecDepth 100000 in
set_option maxHeartbeats 4000000 in
theorem newLifting_any (hS:SzOk S) (hw:Wf S (layL X++b.lay::T)) (hL:LaysAt w B ob oo (X++[b])) (hB:B≤w.heap.size) (h0:0<X.length) (h12:X.length≤12) (hoc:X.length+1≤oc):
 Calls Try.prog 57 #[.slice (some ⟨ob,oo*2,none⟩) (X.length+1) oc] w fun e w'=>NlL S B ob oo oc X b w e w':=by
 have HL:=hide hL
 have HW:=hide hw
 have HS:=hide hS
 obtain⟨i98,hi98,hz0,hz1,hz2⟩:=info_parts Try.info98
 obtain⟨i113,hi113,hy0,hy1,hy2⟩:=info_parts Try.info113
 have e1:IntKind.i64.wrap ((X.length:Int)+1-1)=(X.length:Int):=by simp[IntKind.wrap,IntKind.bits,IntKind.signed];omega
 have e2:(X.length:Int)≤(oc:Int):=by omega
 have Y1:Hid (Below w.heap.size w (w.alloc (.cells #[.slice (some ⟨ob,oo*2,none⟩) (X.length+1) oc,.slice none 0 0,.slice none 0 0] 117))):=al (Below.refl _ _) _
 have ST:Hid (NlI S w (w.alloc (.cells #[.slice (some ⟨ob,oo*2,none⟩) (X.length+1) oc,.slice none 0 0,.slice none 0 0] 117)) B w.heap.size ob oo oc X 0 (.slice none 0 0) (.slice none 0 0) (fun _=>0) (fun _=>0) (fun _=>0) (fun _ _=>False)):=
  ⟨heap_alloc_new w _,World.ownsRow_nil _ _ _ _,World.ownsRow_nil _ _ _ _,fun i h=>(by omega),fun i _ h=>(by omega),fun i j h=>(by omega),fun i j h=>(by omega),fun i j h=>(by omega),fun j h=>(by omega),fun j z h=>(by omega),fun j h=>(by omega),Y1.out,Nat.le_refl _⟩
 have hz00:(0:Int)≤(X.length:Int):=by omega
 clear hL hw hS
 go_enter Try.func57,Try.ntmps57
 go_wp2
 generalize w.alloc (.cells #[.slice (some ⟨ob,oo*2,none⟩) (X.length+1) oc,.slice none 0 0,.slice none 0 0] 117)=w1 at *
 go_loopw [15] (fun v wr=>∃k:Nat,k≤X.length∧v=.int .i64 (k:Int)∧∃kv mv tb kn kk P,Hid (NlI S w wr B w.heap.size ob oo oc X k kv mv tb kn kk P)) (fun v _=>X.length-(RowKit.intOf v).toNat)
 case atStart=>exact⟨0,Nat.zero_le _,rfl,_,_,_,_,_,_,ST⟩
 case round=>
  obtain⟨k,hk,rfl,kv,mv,tb,kn,kk,P,NI⟩:=hrel
  clear ST Y1
  by_cases hlk:k<X.length
  ·have hlk':(k:Int)<(X.length:Int):=by omega
   obtain⟨x,hxk⟩:∃x,X[k]=x:=⟨_,rfl⟩
   have hkX:k<(X++[b]).length:=by simp;omega
   have exk:(X++[b])[k]=x:=by rw[List.getElem_append_left hlk];exact hxk
   have LR:=HL.out.below (NI.out.bel.mono hB)
   have cc:=LR.cl k hkX
   rw[exk,Nat.add_mul] at cc
   obtain⟨o1,o2⟩:=cc
   have hrx:=LR.ly x (by rw[←hxk];simp)
   have HRX:=hide hrx
   have hwx:Wf S (x.lay::((layL X).drop (k+1)++b.lay::T)):=by
    have:=HW.out.drop k
    rw[layL_drop hlk,hxk] at this
    exact this
   have h2:=hwx.1.two
   have h2':2≤x.Rs.length:=by simpa [LA.lay,rdR] using h2
   have hr0:(x.Rs[0]).r=[(szL S x.lv,0)]:=by
    have:=hwx.1.r0
    simp only[LA.lay,rdR,List.getElem?_map,List.getElem?_eq_getElem (show 0<x.Rs.length by omega),Option.map_some,Option.some.injEq] at this
    exact this
   have hr1:(x.Rs[1]).r=[(szL S x.lv,1)]:=by
    have:=hwx.1.r1
    simp only[LA.lay,rdR,List.getElem?_map,List.getElem?_eq_getElem (show 1<x.Rs.length by omega),Option.map_some,Option.some.injEq] at this
    exact this
   have HR0:=hide hr0
   have HR1:=hide hr1
   have hfew:=hrx.few
   clear hr0 hr1 h2 hwx hrx LR exk hkX
   have HXK:=hide hxk
   clear hxk
   have HN:Hid ((X.map fun x=>x.Rs.length).getD k 0=x.Rs.length):=by
    unfold Hid
    rw[←HXK.out]
    simp[List.getD_eq_getElem?_getD,List.getElem?_eq_getElem hlk]
   go_upto_region 5 with fail
   have X1:Hid (Below wr.heap.size wr (wr.alloc (.cells #[.int .i64 x.lv,.slice (some ⟨x.rb,0,none⟩) x.Rs.length x.rc] 105)).drew):=(al (Below.refl _ _) _).drew
   have bx:Hid ((wr.alloc (.cells #[.int .i64 x.lv,.slice (some ⟨x.rb,0,none⟩) x.Rs.length x.rc] 105)).drew.heap[wr.heap.size]? =some (.cells #[.int .i64 x.lv,.slice (some ⟨x.rb,0,none⟩) x.Rs.length x.rc] 105 (0,0))):=heap_alloc_new wr _
   have N1:=hide (NI.out.below X1.out)
   have hxb:Hid (w.heap.size≤wr.heap.size):=NI.out.bel.size
   have LXB:Hid (w.heap.size<wr.heap.size):=lt_of_block NI.out.blk
   obtain⟨ka,kc,hkv,_⟩:=own_shape N1.out.kno
   obtain⟨ma,mc,hmv,_⟩:=own_shape N1.out.mad
   subst hkv
   subst hmv
   refine wp_unt (S:=fun V=>V.cell? ⟨w.heap.size,1,none⟩=some (.slice ka k kc)∧V.cell? ⟨wr.heap.size,1,none⟩=some (.slice (some ⟨x.rb,0,none⟩) x.Rs.length x.rc)) 13 (by kernel_rfl) ?_
   generalize (wr.alloc (.cells #[.int .i64 x.lv,.slice (some ⟨x.rb,0,none⟩) x.Rs.length x.rc] 105)).drew=wd at *
   generalize wr.heap.size=xb at *
   have SB:∀(V:World),NlI S w V B w.heap.size ob oo oc X k (.slice ka k kc) (.slice ma k mc) tb kn kk P→V.heap[xb]? =some (.cells #[.int .i64 x.lv,.slice (some ⟨x.rb,0,none⟩) x.Rs.length x.rc] 105 (0,0))→V.cell? ⟨w.heap.size,1,none⟩=some (.slice ka k kc)∧V.cell? ⟨xb,1,none⟩=some (.slice (some ⟨x.rb,0,none⟩) x.Rs.length x.rc):=fun V hN hb=>⟨hN.cells.1,by rw[cell_of_row _ xb _ _ _ _ hb];rfl⟩
   have HSB:=hide SB
   clear SB o1 o2 NI
   have HS0:=hide (HSB.out _ N1.out bx.out)
   have hmk:=make_rows x.Rs.length (x.Rs.length:Int) rfl (by omega)
   refine UntH.tk 0 rfl 19 HS0.out (fun w' ⟨q0,q1⟩=>by go_simp;first|done|rfl) ?_
   refine UntH.tk 1 rfl 20 HS0.out (fun w' ⟨q0,q1⟩=>by go_simp;first|done|rfl) ?_
   refine UntH.tk 2 rfl 21 HS0.out (fun w' ⟨q0,q1⟩=>by go_simp;first|done|rfl) ?_
   refine UntH.tk 3 rfl 22 HS0.out (fun w' ⟨q0,q1⟩=>by go_simp;first|done|rfl) ?_
   refine UntH.tk 4 rfl 23 HS0.out (fun w' ⟨q0,q1⟩=>by go_simp;first|done|rfl) ?_
   refine UntH.tk 5 rfl 24 HS0.out (fun w' ⟨q0,q1⟩=>by go_simp;first|done|rfl) ?_
   refine UntH.tk 6 rfl 25 HS0.out (fun w' ⟨q0,q1⟩=>by go_simp;first|done|rfl) ?_
   refine UntH.tk 7 rfl 26 HS0.out (fun w' ⟨q0,q1⟩=>by go_simp;first|done|rfl) ?_
   try simp only[Act.put,List.setIfInBounds_toArray,List.set_cons_zero,List.set_cons_succ]
   have y2:Below wd.heap.size wd (wd.alloc (.cells (Array.replicate x.Rs.length (.slice none 0 0)) 102)):=al (Below.refl _ _) _
   have N2:=hide (N1.out.below y2)
   have Z2:=hide (KnB.made wd x.Rs.length)
   have X2:=hide y2
   have bx2:Hid ((wd.alloc (.cells (Array.replicate x.Rs.length (.slice none 0 0)) 102)).heap[xb]? =some (.cells #[.int .i64 x.lv,.slice (some ⟨x.rb,0,none⟩) x.Rs.length x.rc] 105 (0,0))):=(y2.block xb (lt_of_block bx.out)).trans bx.out
   have HS2:=hide (HSB.out _ N2.out bx2.out)
   refine UntH.step (i:=8) (by kernel_rfl) rfl (fun K hK=>?_)
   go_simp
   refine hK _ _ HS2.out ?_
   clear hK K y2 hmk
   try simp only[Act.put,List.setIfInBounds_toArray,List.set_cons_zero,List.set_cons_succ]
   generalize wd.alloc (.cells (Array.replicate x.Rs.length (.slice none 0 0)) 102)=w2 at *
   have y3:Below w2.heap.size w2 (w2.alloc (.cells #[.slice (some ⟨wd.heap.size,0,none⟩) x.Rs.length x.Rs.length] 98)):=al (Below.refl _ _) _
   have N3:=hide (N2.out.below y3)
   have Z3:=hide (Z2.out.below y3)
   have X3:=hide (bt X2.out y3 (Nat.le_refl _))
   have bx3:Hid ((w2.alloc (.cells #[.slice (some ⟨wd.heap.size,0,none⟩) x.Rs.length x.Rs.length] 98)).heap[xb]? =some (.cells #[.int .i64 x.lv,.slice (some ⟨x.rb,0,none⟩) x.Rs.length x.rc] 105 (0,0))):=(y3.block xb (lt_of_block bx2.out)).trans bx2.out
   have HS3:=hide (HSB.out _ N3.out bx3.out)
   have HNW:=hide (one_new w2 (.slice (some ⟨wd.heap.size,0,none⟩) x.Rs.length x.Rs.length) 98)
   refine UntH.step (i:=9) (by kernel_rfl) rfl (fun K hK=>?_)
   go_simp
   refine hK _ _ HS3.out ?_
   clear hK K y3 N2 Z2 X2 bx2 HS2
   try simp only[Act.put,List.setIfInBounds_toArray,List.set_cons_zero,List.set_cons_succ]
   generalize w2.alloc (.cells #[.slice (some ⟨wd.heap.size,0,none⟩) x.Rs.length x.Rs.length] 98)=w3 at *
   refine UntH.step (i:=10) (by kernel_rfl) rfl (fun K hK=>?_)
   refine step_append_lies _ (by rfl) (.tmp 23) (.tmp 28) 114 (by rfl) w.heap.size 98 i98 (.slice none 0 0) 1 24 Try.underlying114 hi98 hz0 hz1 hz2 rfl (by decide) _ k _ (by rfl) N3.out.kno ⟨w2.heap.size,0,none⟩ 1 1 [.slice (some ⟨wd.heap.size,0,none⟩) x.Rs.length x.Rs.length] (by rfl) (by rfl) HNW.out (by simp[Value.oneCell']) (by decide) (by unfold maxLen;omega) (by omega) N3.out.bel.size _ rfl ?_
   intro g8 cap8 w8 h1 h2 h3 h4
   have O8:=hide h1
   have G8:=hide h2
   have L8:Hid (∀z,(Value.slice (some ⟨g8,0,none⟩) (k+1) cap8).ownBlock=some z→(Value.slice ka k kc).ownBlock=some z∨w3.heap.size≤z):=fun z hz=>by
    have e:g8=z:=Option.some.inj hz
    subst e
    rcases h3 with h3|h3
    ·exact .inl h3
    ·exact .inr (by omega)
   have kp8:Hid (∀ {c:Nat} {cs:Array Value} {tt:TypeId},w3.heap[c]? =some (.cells cs tt (0,0))→tt≠98→w8.heap[c]? =some (.cells cs tt (0,0))):=fun {c cs tt} hc htt=>((kept_of_grown h2).block c (lt_of_block hc) (fun hz=>by
    obtain⟨cs',h5⟩:=own_ty N3.out.kno _ hz
    exact ty_ne hc h5 htt rfl)).trans hc
   have B8:=hide (kp8.out N3.out.blk (by decide))
   have bx8:=hide (kp8.out bx3.out (by decide))
   have HS8:Hid (w8.cell? ⟨w.heap.size,1,none⟩=some (.slice ka k kc)∧w8.cell? ⟨xb,1,none⟩=some (.slice (some ⟨x.rb,0,none⟩) x.Rs.length x.rc)):=⟨by rw[cell_of_row _ _ _ _ _ _ B8.out];rfl,by rw[cell_of_row _ xb _ _ _ _ bx8.out];rfl⟩
   have f8:=frozen_of_row w8 w.heap.size 1 _ _ B8.out
   refine hK _ _ HS8.out ?_
   clear hK K h1 h2 h3 h4 kp8
   refine UntH.tk 11 rfl 30 HS8.out (fun w' ⟨q0,q1⟩=>by go_simp;first|done|rfl) ?_
   refine UntH.tk 12 rfl 31 HS8.out (fun w' ⟨q0,q1⟩=>by go_simp;first|done|rfl) ?_
   have q8:=HS8.out.1
   refine UntH.last (by kernel_rfl) rfl (by kernel_rfl) (by kernel_rfl) (fun K hK=>?_)
   go_simp
   refine hK _ _ ?_
   clear hK K q8 f8 HS8 HS3 HS0
   have NK:=hide (N1.out.push (kb:=wd.heap.size) (kc:=x.Rs.length) (kv':=.slice (some ⟨g8,0,none⟩) (k+1) cap8) (w4:=w8.setCell ⟨w.heap.size,1,none⟩ (.slice (some ⟨g8,0,none⟩) (k+1) cap8)) X3.out (Nat.le_refl _) (by rw[HN.out];exact Z3.out) (by rw[HN.out];exact O8.out) G8.out L8.out rfl)
   have bx9:Hid ((w8.setCell ⟨w.heap.size,1,none⟩ (.slice (some ⟨g8,0,none⟩) (k+1) cap8)).heap[xb]? =some (.cells #[.int .i64 x.lv,.slice (some ⟨x.rb,0,none⟩) x.Rs.length x.rc] 105 (0,0))):=(Below.heap_setCell _ _ _ _ (fun e=>by have:=LXB.out;simp only at e;omega)).trans bx8.out
   clear O8 G8 L8 B8 bx8 bx3 N3 Z3 X3 HNW N1 HSB bx X1
   generalize w8.setCell ⟨w.heap.size,1,none⟩ (.slice (some ⟨g8,0,none⟩) (k+1) cap8)=w9 at *
   generalize ext1 kn k wd.heap.size=kn' at *
   generalize ext1 kk k x.Rs.length=kk' at *
   go_upto_region 6 with fail
   have X1:Hid (Below w9.heap.size w9 w9.drew):=(Below.refl _ _).drew
   have bx:Hid (w9.drew.heap[xb]? =some (.cells #[.int .i64 x.lv,.slice (some ⟨x.rb,0,none⟩) x.Rs.length x.rc] 105 (0,0))):=bx9.out
   have N1:=hide (NK.out.below X1.out)
   have HRX9:Hid (RowsB w9.drew B x):=(HL.out.ly x (by rw[←HXK.out];simp)).below (N1.out.bel.mono hB)
   obtain⟨y0,hy00⟩:∃y,x.Rs[0]=y:=⟨_,rfl⟩
   obtain⟨y1,hy01⟩:∃y,x.Rs[1]=y:=⟨_,rfl⟩
   have HR0':Hid (y0.r=[(szL S x.lv,0)]):=by unfold Hid;rw[←hy00];exact HR0.out
   have HR1':Hid (y1.r=[(szL S x.lv,1)]):=by unfold Hid;rw[←hy01];exact HR1.out
   have HY0:=hide hy00
   have HY1:=hide hy01
   clear hy00 hy01 HR0 HR1
   have l0:(0:Int)<(x.Rs.length:Int):=by omega
   have l0':0<x.Rs.length:=by omega
   have l1':1<x.Rs.length:=by omega
   have l1:(1:Int)<(x.Rs.length:Int):=by omega
   have SB:∀(V:World),NlK S w V B w.heap.size ob oo oc X k (.slice (some ⟨g8,0,none⟩) (k+1) cap8) (.slice ma k mc) tb kn' kk' P→V.heap[xb]? =some (.cells #[.int .i64 x.lv,.slice (some ⟨x.rb,0,none⟩) x.Rs.length x.rc] 105 (0,0))→V.cell? ⟨w.heap.size,2,none⟩=some (.slice ma k mc)∧V.cell? ⟨xb,1,none⟩=some (.slice (some ⟨x.rb,0,none⟩) x.Rs.length x.rc)∧V.cell? ⟨x.rb,0,none⟩=some (.slice (some ⟨y0.b,0,none⟩) y0.r.length y0.c)∧V.cell? ⟨x.rb,1,none⟩=some (.slice (some ⟨y1.b,0,none⟩) y1.r.length y1.c):=fun V hN hb=>by
    have hr:RowsB V B x:=(HL.out.ly x (by rw[←HXK.out];simp)).below (hN.bel.mono hB)
    have c0:=hr.cell (i:=0) (by omega)
    have c1:=hr.cell (i:=1) (by omega)
    rw[HY0.out] at c0
    rw[HY1.out] at c1
    exact⟨hN.cells.2,by rw[cell_of_row _ xb _ _ _ _ hb];rfl,c0,c1⟩
   have HSB:=hide SB
   clear SB bx9 NK
   refine wp_unt (S:=fun V=>V.cell? ⟨w.heap.size,2,none⟩=some (.slice ma k mc)∧V.cell? ⟨xb,1,none⟩=some (.slice (some ⟨x.rb,0,none⟩) x.Rs.length x.rc)∧V.cell? ⟨x.rb,0,none⟩=some (.slice (some ⟨y0.b,0,none⟩) y0.r.length y0.c)∧V.cell? ⟨x.rb,1,none⟩=some (.slice (some ⟨y1.b,0,none⟩) y1.r.length y1.c)) 19 (by kernel_rfl) ?_
   generalize w9.drew=wd6 at *
   have HS0:=hide (HSB.out _ N1.out bx.out)
   refine UntH.tk 0 rfl 32 HS0.out (fun w' ⟨q0,q1,q2,q3⟩=>by go_simp;first|done|rfl) ?_
   refine UntH.tk 1 rfl 33 HS0.out (fun w' ⟨q0,q1,q2,q3⟩=>by go_simp;first|done|rfl) ?_
   refine UntH.tk 2 rfl 34 HS0.out (fun w' ⟨q0,q1,q2,q3⟩=>by go_simp;first|done|rfl) ?_
   refine UntH.tk 3 rfl 35 HS0.out (fun w' ⟨q0,q1,q2,q3⟩=>by go_simp;first|done|rfl) ?_
   refine UntH.tk 4 rfl 36 HS0.out (fun w' ⟨q0,q1,q2,q3⟩=>by go_simp;first|done|rfl) ?_
   refine UntH.tk 5 rfl 37 HS0.out (fun w' ⟨q0,q1,q2,q3⟩=>by go_simp;first|done|rfl) ?_
   refine UntH.tk 6 rfl 38 HS0.out (fun w' ⟨q0,q1,q2,q3⟩=>by go_simp;first|done|rfl) ?_
   refine UntH.tk 7 rfl 39 HS0.out (fun w' ⟨q0,q1,q2,q3⟩=>by go_simp;first|done|rfl) ?_
   refine UntH.tk 8 rfl 40 HS0.out (fun w' ⟨q0,q1,q2,q3⟩=>by go_simp;first|done|rfl) ?_
   refine UntH.tk 9 rfl 41 HS0.out (fun w' ⟨q0,q1,q2,q3⟩=>by go_simp;first|done|rfl) ?_
   refine UntH.tk 10 rfl 42 HS0.out (fun w' ⟨q0,q1,q2,q3⟩=>by go_simp;first|done|rfl) ?_
   refine UntH.tk 11 rfl 43 HS0.out (fun w' ⟨q0,q1,q2,q3⟩=>by go_simp;first|done|rfl) ?_
   refine UntH.tk 12 rfl 44 HS0.out (fun w' ⟨q0,q1,q2,q3⟩=>by go_simp;first|done|rfl) ?_
   try simp only[Act.put,List.setIfInBounds_toArray,List.set_cons_zero,List.set_cons_succ]
   have y2:Below wd6.heap.size wd6 (wd6.alloc (.cells #[.slice (some ⟨y0.b,0,none⟩) y0.r.length y0.c,.slice (some ⟨y1.b,0,none⟩) y1.r.length y1.c] 102)):=al (Below.refl _ _) _
   have N2:=hide (N1.out.below y2)
   have bx2:Hid ((wd6.alloc (.cells #[.slice (some ⟨y0.b,0,none⟩) y0.r.length y0.c,.slice (some ⟨y1.b,0,none⟩) y1.r.length y1.c] 102)).heap[xb]? =some (.cells #[.int .i64 x.lv,.slice (some ⟨x.rb,0,none⟩) x.Rs.length x.rc] 105 (0,0))):=(y2.block xb (lt_of_block bx.out)).trans bx.out
   have HS2:=hide (HSB.out _ N2.out bx2.out)
   have BB2:Hid (BlB (wd6.alloc (.cells #[.slice (some ⟨y0.b,0,none⟩) y0.r.length y0.c,.slice (some ⟨y1.b,0,none⟩) y1.r.length y1.c] 102)) wd6.heap.size 2 [y0,y1]):=⟨_,heap_alloc_new wd6 _,rfl,fun i hi=>by
    match i,hi with
    |0,_=>rfl
    |1,_=>rfl⟩
   have Z2:=hide y2
   have NT:=hide (newTable_any (c:=2) BB2.out ((HRX9.out.row y0 (by rw[←HY0.out];exact List.getElem_mem _)).1.below y2) ((HRX9.out.row y1 (by rw[←HY1.out];exact List.getElem_mem _)).1.below y2) (HRX9.out.row y0 (by rw[←HY0.out];exact List.getElem_mem _)).2.1.1 (HRX9.out.row y1 (by rw[←HY1.out];exact List.getElem_mem _)).2.1.1 (by rw[HR0'.out,HR1'.out];simp))
   refine UntH.step (i:=13) (by kernel_rfl) rfl (fun K hK=>?_)
   go_simp
   refine hK _ _ HS2.out ?_
   clear hK K y2
   try simp only[Act.put,List.setIfInBounds_toArray,List.set_cons_zero,List.set_cons_succ]
   generalize wd6.alloc (.cells #[.slice (some ⟨y0.b,0,none⟩) y0.r.length y0.c,.slice (some ⟨y1.b,0,none⟩) y1.r.length y1.c] 102)=w2 at *
   refine UntH.step (i:=14) (by kernel_rfl) rfl (fun K hK=>?_)
   go_simp
   refine NT.out.mono ?_
   rintro en w3 ⟨t,rfl,Pt,tb3,pt3,x3⟩
   rw[HR0'.out,HR1'.out] at tb3
   have TB3:=hide (tb3.mono (Q':=fun _=>True) (fun _ _=>trivial))
   have PT3:=hide pt3
   have X3:=hide (bt Z2.out x3 (Nat.le_refl _))
   have SZ3:=hide Z2.out.size
   have N3:=hide (N2.out.below x3)
   have bx3:Hid (w3.heap[xb]? =some (.cells #[.int .i64 x.lv,.slice (some ⟨x.rb,0,none⟩) x.Rs.length x.rc] 105 (0,0))):=(x3.block xb (lt_of_block bx2.out)).trans bx2.out
   have HS3:=hide (HSB.out _ N3.out bx3.out)
   refine hK _ _ HS3.out ?_
   clear hK K tb3 pt3 x3 NT
   try simp only[Act.put,List.setIfInBounds_toArray,List.set_cons_zero,List.set_cons_succ]
   have y5:Below w3.heap.size w3 (w3.alloc (.cells #[.pointer (some ⟨t,0,none⟩)] 113)):=al (Below.refl _ _) _
   have N5:=hide (N3.out.below y5)
   have X5:=hide y5
   have bx5:Hid ((w3.alloc (.cells #[.pointer (some ⟨t,0,none⟩)] 113)).heap[xb]? =some (.cells #[.int .i64 x.lv,.slice (some ⟨x.rb,0,none⟩) x.Rs.length x.rc] 105 (0,0))):=(y5.block xb (lt_of_block bx3.out)).trans bx3.out
   have HS5:=hide (HSB.out _ N5.out bx5.out)
   have HNW:=hide (one_new w3 (.pointer (some ⟨t,0,none⟩)) 113)
   refine UntH.step (i:=15) (by kernel_rfl) rfl (fun K hK=>?_)
   go_simp
   refine hK _ _ HS5.out ?_
   clear hK K y5 N2 bx2 HS2 BB2
   try simp only[Act.put,List.setIfInBounds_toArray,List.set_cons_zero,List.set_cons_succ]
   generalize w3.alloc (.cells #[.pointer (some ⟨t,0,none⟩)] 113)=w5 at *
   refine UntH.step (i:=16) (by kernel_rfl) rfl (fun K hK=>?_)
   refine step_append_lies _ (by rfl) (.tmp 36) (.tmp 47) 115 (by rfl) w.heap.size 113 i113 (.pointer none) 1 8 Try.underlying115 hi113 hy0 hy1 hy2 rfl (by decide) _ k _ (by rfl) N5.out.mad ⟨w3.heap.size,0,none⟩ 1 1 [.pointer (some ⟨t,0,none⟩)] (by rfl) (by rfl) HNW.out (by simp[Value.oneCell']) (by decide) (by unfold maxLen;omega) (by omega) N5.out.bel.size _ rfl ?_
   intro g10 cap10 w10 h1 h2 h3 h4
   have O10:=hide h1
   have G10:=hide h2
   have L10:Hid (∀z,(Value.slice (some ⟨g10,0,none⟩) (k+1) cap10).ownBlock=some z→(Value.slice ma k mc).ownBlock=some z∨w5.heap.size≤z):=fun z hz=>by
    have e:g10=z:=Option.some.inj hz
    subst e
    rcases h3 with h3|h3
    ·exact .inl h3
    ·exact .inr (by omega)
   have kp10:Hid (∀ {c:Nat} {cs:Array Value} {tt:TypeId},w5.heap[c]? =some (.cells cs tt (0,0))→tt≠113→w10.heap[c]? =some (.cells cs tt (0,0))):=fun {c cs tt} hc htt=>((kept_of_grown h2).block c (lt_of_block hc) (fun hz=>by
    obtain⟨cs',h5⟩:=own_ty N5.out.mad _ hz
    exact ty_ne hc h5 htt rfl)).trans hc
   have B10:=hide (kp10.out N5.out.blk (by decide))
   have bx10:=hide (kp10.out bx5.out (by decide))
   have RB10:Hid (w10.cell? ⟨x.rb,0,none⟩=some (.slice (some ⟨y0.b,0,none⟩) y0.r.length y0.c)∧w10.cell? ⟨x.rb,1,none⟩=some (.slice (some ⟨y1.b,0,none⟩) y1.r.length y1.c)):=by
    have hr:RowsB w5 B x:=(HL.out.ly x (by rw[←HXK.out];simp)).below (N5.out.bel.mono hB)
    obtain⟨cs,hb,hc⟩:=hr.blk
    have hb':=kp10.out hb (by decide)
    have c0:=hc 0 (by omega)
    have c1:=hc 1 (by omega)
    rw[HY0.out] at c0
    rw[HY1.out] at c1
    exact⟨by rw[cell_of_row _ _ _ _ _ _ hb'];exact c0,by rw[cell_of_row _ _ _ _ _ _ hb'];exact c1⟩
   have HS10:Hid (w10.cell? ⟨w.heap.size,2,none⟩=some (.slice ma k mc)∧w10.cell? ⟨xb,1,none⟩=some (.slice (some ⟨x.rb,0,none⟩) x.Rs.length x.rc)∧w10.cell? ⟨x.rb,0,none⟩=some (.slice (some ⟨y0.b,0,none⟩) y0.r.length y0.c)∧w10.cell? ⟨x.rb,1,none⟩=some (.slice (some ⟨y1.b,0,none⟩) y1.r.length y1.c)):=⟨by rw[cell_of_row _ _ _ _ _ _ B10.out];rfl,by rw[cell_of_row _ xb _ _ _ _ bx10.out];rfl,RB10.out⟩
   have f10:=frozen_of_row w10 w.heap.size 2 _ _ B10.out
   refine hK _ _ HS10.out ?_
   clear hK K h1 h2 h3 h4 kp10
   refine UntH.tk 17 rfl 49 HS10.out (fun w' ⟨q0,q1,q2,q3⟩=>by go_simp;first|done|rfl) ?_
   refine UntH.tk 18 rfl 50 HS10.out (fun w' ⟨q0,q1,q2,q3⟩=>by go_simp;first|done|rfl) ?_
   have q10:=HS10.out.1
   refine UntH.last (by kernel_rfl) rfl (by kernel_rfl) (by kernel_rfl) (fun K hK=>?_)
   go_simp
   refine hK _ _ ?_
   clear hK K q10 f10 HS10 HS5 HS3 HS0
   have hlv:(X[k]).lv=x.lv:=by rw[HXK.out]
   have FIN:=hide (N1.out.push hlk (w4:=w10.setCell ⟨w.heap.size,2,none⟩ (.slice (some ⟨g10,0,none⟩) (k+1) cap10)) X3.out (by rw[hlv];exact TB3.out) (fun z hz=>Nat.le_trans SZ3.out (PT3.out z hz)) X5.out O10.out G10.out L10.out rfl)
   clear O10 G10 L10 B10 bx10 bx5 bx3 N5 N3 X3 X5 HNW N1 HSB bx X1 RB10 TB3 PT3
   generalize w10.setCell ⟨w.heap.size,2,none⟩ (.slice (some ⟨g10,0,none⟩) (k+1) cap10)=w11 at *
   go_wp2
   go_roundw
   case rel=>exact⟨k+1,by omega,by go_num,_,_,_,_,_,_,FIN⟩
   case measure=>simp[RowKit.intOf];omega
  ·have hlk':¬(k:Int)<(X.length:Int):=by omega
   obtain rfl:k=X.length:=by omega
   go_wp2
   go_ret
   exact NI.out.done h0 HL.out hB
end
theorem Try.info105:(Try.prog.info? 105).map (fun i=>(i.zero,i.size,i.bytes))=some (some (.agg #[.int .i64 0,.slice none 0 0]),2,32):=by kernel_rfl
def laC (Ls:List LA):List Value:=Ls.flatMap fun x=>[.int .i64 x.lv,.slice (some ⟨x.rb,0,none⟩) x.Rs.length x.rc]
theorem laC_length:∀Ls:List LA,(laC Ls).length=Ls.length*2
 |[]=>rfl
 |x::R=>by
  have:=laC_length R
  simp only[laC,List.flatMap_cons,List.length_append,List.length_cons,List.length_nil] at *
  omega
theorem laC_append (R T:List LA):laC (R++T)=laC R++laC T:=by simp[laC]
theorem laC_get:∀(R:List LA) (i:Nat) (h:i<R.length),(laC R)[i*2]? =some (.int .i64 (R[i]).lv)∧(laC R)[i*2+1]? =some (.slice (some ⟨(R[i]).rb,0,none⟩) (R[i]).Rs.length (R[i]).rc)
 |x::R,0,_=>by simp[laC]
 |x::R,i+1,h=>by
  have h':i<R.length:=by simpa using h
  have:=laC_get R i h'
  simp only[laC,List.flatMap_cons] at *
  rw[Nat.succ_mul]
  simpa using this
theorem laC_one (R:List LA):∀u∈laC R,u.oneCell'=true:=fun u hu=>by
 obtain⟨x,_,h⟩:=List.mem_flatMap.1 hu
 simp at h
 rcases h with rfl|rfl<;>simp[Value.oneCell']
theorem laC_set (A:List LA) (x y:LA) (T:List LA):((laC (A++x::T)).set (A.length*2) (.int .i64 y.lv)).set (A.length*2+1) (.slice (some ⟨y.rb,0,none⟩) y.Rs.length y.rc)=laC (A++y::T):=by
 rw[laC_append,laC_append,←laC_length A,List.set_append_right _ _ (Nat.le_refl _),Nat.sub_self,List.set_append_right _ _ (by omega),Nat.add_sub_cancel_left]
 rfl
structure DgX (w:World) (B:Nat) (ra:Option Addr) (lb lc:Nat) (R:List Int) (Ls:List LA):Prop where
 rts:R=[]∨∃b off,(ra=some ⟨b,off,none⟩∧off=0)∧b<B∧∀i (h:i<R.length),w.cell? ⟨b,off+i,none⟩=some (.int .i32 R[i])
 lay:LaysAt w B lb 0 Ls
 c1:Ls.length≤lc
 c2:lc≤maxLen
 hB:B≤w.heap.size
abbrev dgV (ra:Option Addr) (nr rc lb nl lc:Nat):Value:=.agg #[.slice ra nr rc,.slice (some ⟨lb,0,none⟩) nl lc]
section
variable {w w':World} {B:Nat} {ra:Option Addr} {lb lc:Nat} {R:List Int} {Ls:List LA}
theorem DgX.below (h:DgX w B ra lb lc R Ls) (x:Below B w w'):DgX w' B ra lb lc R Ls:=
 ⟨h.rts.imp id (fun⟨b,off,e,hb,hc⟩=>⟨b,off,e,hb,fun i hi=>(x.cell (p:=⟨b,off+i,none⟩) hb).trans (hc i hi)⟩),h.lay.below x,h.c1,h.c2,Nat.le_trans h.hB x.size⟩
theorem DgX.mono (h:DgX w B ra lb lc R Ls) {B':Nat} (h1:B≤B') (h2:B'≤w.heap.size):DgX w B' ra lb lc R Ls:=
 ⟨h.rts.imp id (fun⟨b,off,e,hb,hc⟩=>⟨b,off,e,by omega,hc⟩),h.lay.mono h1,h.c1,h.c2,h2⟩
theorem LaysAt.cells (h:LaysAt w B lb 0 Ls):∀j u,(laC Ls)[j]? =some u→w.cell? ((⟨lb,0,none⟩:Addr).add j)=some u:=fun j u hu=>by
 have hj:j<Ls.length*2:=by
  rw[←laC_length]
  rcases Nat.lt_or_ge j (laC Ls).length with h1|h1
  ·exact h1
  ·rw[List.getElem?_eq_none h1] at hu;cases hu
 rw[addr_add,Nat.zero_add]
 have hi:j/2<Ls.length:=by omega
 obtain⟨c1,c2⟩:=h.cl (j/2) hi
 rw[Nat.zero_add] at c1 c2
 obtain⟨g1,g2⟩:=laC_get Ls (j/2) hi
 rcases (by omega:j=j/2*2∨j=j/2*2+1) with e|e
 ·rw[←e] at c1 g1
  rw[c1,←g1,hu]
 ·rw[←e] at c2 g2
  rw[c2,←g2,hu]
theorem LaysAt.of_own {base g n cap:Nat} (ho:w.ownsRow base 105 2 (.slice (some ⟨g,0,none⟩) n cap) Ls.length (laC Ls)) (hn:n=Ls.length) (hl:∀x∈Ls,RowsB w w.heap.size x):LaysAt w w.heap.size g 0 Ls:=by
 subst hn
 refine⟨(World.ownsRow.lt ho g rfl).2,fun i hi=>?_,hl⟩
 obtain⟨g1,g2⟩:=laC_get Ls i hi
 rw[Nat.zero_add]
 exact⟨(World.ownsRow.cellAt ho (i*2) (by omega)).trans g1,(World.ownsRow.cellAt ho (i*2+1) (by omega)).trans g2⟩
end
set_option maxRecDepth 100000 in
set_option maxHeartbeats 1000000 in
theorem cloneL_any (lb cap:Nat) (Ls:List LA) (w:World) {B:Nat} (hl:Ls.length≤12) (h0:0<Ls.length) (hat:LaysAt w B lb 0 Ls) (hB:B≤w.heap.size):
 Calls Try.prog 59 #[.slice (some ⟨lb,0,none⟩) Ls.length cap] w fun e w'=>(∃g c,e=.returned (.slice (some ⟨g,0,none⟩) Ls.length c)∧w'.ownsRow w.heap.size 105 2 (.slice (some ⟨g,0,none⟩) Ls.length c) Ls.length (laC Ls))∧Below w.heap.size w w':=by
 obtain⟨i3,hi3,hz30,hz31,hz32⟩:=info_parts Try.info105
 have hnil:=fun(a:Option Addr) (n c:Nat) (W:World)=>run_eql_slice_nil (P:=Try.prog) W 68 105 a n c 0 0 Try.underlying68
 have hb1:Below w.heap.size w (w.alloc (.cells #[] 105)):=(Below.refl _ _).alloc (Nat.le_refl _) _
 have HN:=hide (hat.below (hb1.mono hB)).cells
 have HO:Hid ((w.alloc (.cells #[] 105)).ownsRow w.heap.size 105 2 (.slice (some ⟨w.heap.size,0,none⟩) 0 0) 0 []):=⟨rfl,.inr ⟨w.heap.size,0,#[],rfl,Nat.le_refl _,by show(w.heap.push _)[_]? =_;simp,Nat.le_refl _,by decide,rfl,rfl⟩⟩
 have HB:=hide hb1
 have HL:Hid ((laC Ls).length=Ls.length*2):=laC_length Ls
 have H0:=hide h0
 clear hat hb1 h0
 go_enter Try.func59,Try.ntmps59
 go_wp2_with (at_builtin;refine wpList_append_view rfl (.tmp 5) (.tmp 6) 68 rfl w.heap.size 105 i3 (.agg #[.int .i64 0,.slice none 0 0]) 2 32 Try.underlying68 hi3 hz30 hz31 hz32 rfl (by decide) _ 0 [] rfl HO.out ⟨lb,0,none⟩ Ls.length cap (laC Ls) rfl HL.out HN.out (laC_one Ls) H0.out (by unfold maxLen;omega) (by omega) HB.out.size ?_;intro v8 w8 h1 h2;have H1:=hide h1;have H2:=hide h2;clear h1 h2)
 go_ret
 have o:=H1.out
 rw[Nat.zero_add,List.nil_append] at o
 obtain⟨ao,c,rfl,hp⟩:=own_shape o
 obtain⟨g,rfl⟩:=hp H0.out
 exact⟨⟨g,c,rfl,o⟩,app_below HB.out HO.out H2.out (Nat.le_refl _)⟩
end Go.Proofs.Ytnddhkhmbjeefaa

