/-
  split by its contract: one level. Condition: as many rows as places of 31 bits can tell.
-/
import Derived.Test.YtnddhkhmbjeefaaC11
namespace Go.Proofs.Ytnddhkhmbjeefaa
open Go.RowKit Go.Lib Go.Maps
structure SpI (S:List Int) (B:Nat) (a:LfA) (X:List LA) (b:LA) (T Y:List Lay) (P:Nat→Nat→Prop) (i bb n:Nat) (y:List Rn) (w1 wr:World) (BL:List RD) (hf:Nat→Nat→Int) (Y':List Lay) (K':Nat→Nat→Option RD) (P' Q':Nat→Nat→Prop):Prop where
 lf:LfS wr B a X b Y' K' P' Q'
 lp:LfP S (layL X) b.lay T Y' K'
 ex:ExtL Y Y'
 bl:BlB wr bb n BL
 row:∀j (h:j<BL.length),RwB wr (BL[j]).b (BL[j]).r∧(BL[j]).r=rlN (hf j) (szL S b.lv).toNat∧RdF BL[j]∧∃h':j<y.length,SplOk S (layL X) b.lay T Y' (i+1) (y[j]).2 (hf j)
 kp:Kept (fun z=>LfF a X.length P z∨z=bb) w1 wr
 pn:∀k,LfF a X.length P' k→LfF a X.length P k∨w1.heap.size≤k
section
variable {S:List Int} {B:Nat} {a:LfA} {X:List LA} {b:LA} {T Y:List Lay} {M:Nat} {w:World} {K:Nat→Nat→Option RD} {P Q:Nat→Nat→Prop}
set_option maxRecDepth 100000 in
set_option maxHeartbeats 4000000 in
theorem split_hit (hB:LfB S (layL X) b.lay T M) (h:LfS w B a X b Y K P Q) (hp:LfP S (layL X) b.lay T Y K) {i t:Nat} (hi:i<X.length) (ht:inW ((layL X).drop i++b.lay::T) (t:Int)) {x:RD} (hk:K i t=some x):
 Calls Try.prog 58 #[.pointer (some ⟨a.l,0,none⟩),.int .i64 (i:Int),.int .i32 (t:Int)] w fun e w'=>SpL S B a X b T Y P i t w e w':=by
 have hx:(X++[b])[i]? =some X[i]:=by rw[List.getElem?_append_left hi,List.getElem?_eq_getElem hi]
 obtain⟨y,ht',hy,⟨g,hg,_⟩,hgd,rwy,rdf⟩:=split_row hB h hx ht
 obtain⟨o1,_,o3⟩:=h.oldcell hx
 have q1:=o3.cell ht'
 rw[hy] at q1
 obtain⟨k1,_⟩:=h.kncell hi
 have k2:=((h.knb i hi).cell ht').1
 rw[hk] at k2
 simp only[RD.v] at k2
 obtain⟨f,hf1,hf2⟩:=hp.kno i t x (by simpa using hi) hk
 have HF:=hide (And.intro hf1 hf2)
 have HR:=hide (h.knr i t x hi hk)
 have HH:=hide h
 have HP:=hide hp
 obtain⟨c0,c1,c2⟩:=h.cells
 have hlt:(i:Int)<(X.length:Int)+1:=by omega
 have hlt2:(i:Int)<(X.length:Int):=by omega
 have hne:¬(i:Int)=(X.length:Int):=by omega
 have ht2:(t:Int)<((X[i]).Rs.length:Int):=by omega
 have hnil:=fun(a:Option Addr) (n c:Nat) (W:World)=>run_eql_slice_nil (P:=Try.prog) W 102 134 a n c 0 0 Try.underlying102
 clear h hp hB ht hx hy hg hgd rwy rdf o3 hk hf1 hf2
 generalize (X[i]).Rs.length=nb at *
 generalize (X[i]).rb=rbx at *
 generalize (X[i]).rc=rcx at *
 go_enter Try.func58,Try.ntmps58
 go_wp2
 go_ret
 exact⟨x,rfl,HR.out.1,HR.out.2,f,HF.out.1,Y,K,P,Q,HH.out,HP.out,ExtL.refl _,HF.out.2,Kept.refl _ _,fun k hk=>.inl hk⟩
set_option maxRecDepth 100000 in
set_option maxHeartbeats 4000000 in
theorem split_miss (hB:LfB S (layL X) b.lay T M) {i:Nat} (hi:i<X.length) (h12:X.length≤12)
 (ih:∀(w:World) (Y:List Lay) (K:Nat→Nat→Option RD) (P Q:Nat→Nat→Prop) (t:Nat),LfS w B a X b Y K P Q→LfP S (layL X) b.lay T Y K→inW ((layL X).drop (i+1)++b.lay::T) (t:Int)→Calls Try.prog 58 #[.pointer (some ⟨a.l,0,none⟩),.int .i64 ((i+1:Nat):Int),.int .i32 (t:Int)] w fun e w'=>SpL S B a X b T Y P (i+1) t w e w')
 (h:LfS w B a X b Y K P Q) (hp:LfP S (layL X) b.lay T Y K) {t:Nat} (ht:inW ((layL X).drop i++b.lay::T) (t:Int)) (hk:K i t=none):
 Calls Try.prog 58 #[.pointer (some ⟨a.l,0,none⟩),.int .i64 (i:Int),.int .i32 (t:Int)] w fun e w'=>SpL S B a X b T Y P i t w e w':=by
 have hx:(X++[b])[i]? =some X[i]:=by rw[List.getElem?_append_left hi,List.getElem?_eq_getElem hi]
 obtain⟨y,ht',hy,⟨g,hg,hgv⟩,hgd,rwy,rdf⟩:=split_row hB h hx ht
 obtain⟨o1,_,o3⟩:=h.oldcell hx
 have q1:=o3.cell ht'
 rw[hy] at q1
 obtain⟨k1,_⟩:=h.kncell hi
 have k2:=((h.knb i hi).cell ht').1
 rw[hk] at k2
 simp only at k2
 have HB:=hide hB
 have IH:=hide ih
 have HH:=hide h
 have HP:=hide hp
 have HG:=hide hg
 have HGV:=hide (hgv hi)
 have HGD:=hide hgd
 have HT:=hide ht
 have HR:=hide (And.intro rwy rdf)
 have HT':=hide ht'
 obtain⟨c0,c1,c2⟩:=h.cells
 have hlt:(i:Int)<(X.length:Int)+1:=by omega
 have hlt2:(i:Int)<(X.length:Int):=by omega
 have hne:((i:Int)==(X.length:Int))=false:=by simp;omega
 have ht2:(t:Int)<((X[i]).Rs.length:Int):=by omega
 have hnil:=fun(a:Option Addr) (n c:Nat) (W:World)=>run_eql_slice_nil (P:=Try.prog) W 102 134 a n c 0 0 Try.underlying102
 have hn1:=rdf.1.pos
 have hn2:=rdf.1.le
 have hmk:=make_rows y.r.length (y.r.length:Int) rfl (by omega)
 have hee:IntKind.i64.wrap ((i:Int)+1)=((i+1:Nat):Int):=by simp[IntKind.wrap,IntKind.bits,IntKind.signed];omega
 clear h hp hB ht hx hy hg hgd rwy rdf o3 hk hgv ih ht'
 go_enter Try.func58,Try.ntmps58
 go_upto_region 6 with fail
 have Y1:Hid (Below w.heap.size w (w.alloc (.cells (Array.replicate y.r.length (.slice none 0 0)) 102))):=al (Below.refl _ _) _
 have BM:=hide (BlB.made w y.r.length)
 have SZ1:Hid ((w.alloc (.cells (Array.replicate y.r.length (.slice none 0 0)) 102)).heap.size=w.heap.size+1):=by unfold Hid;simp
 clear hmk q1 k1 k2 c0 c1 c2 o1 hnil
 generalize w.alloc (.cells (Array.replicate y.r.length (.slice none 0 0)) 102)=w1 at *
 have NR1:Hid (NoRun w1 (fun z=>LfF a X.length P z∨z=w.heap.size)):=fun z hz cs e=>by
  rcases hz with hz|hz
  ·exact(HH.out.below Y1.out).nor z hz cs e
  ·obtain⟨cs',h1,_⟩:=BM.out
   subst hz
   exact ty_ne h1 e (by decide) rfl
 have ST:Hid (SpI S B a X b T Y P i w.heap.size y.r.length y.r w1 w1 [] (fun _ _=>0) Y K P Q):=⟨HH.out.below Y1.out,HP.out,ExtL.refl _,BM.out,fun j h=>(by cases h),Kept.refl _ _,fun k hk=>.inl hk⟩
 go_wp2
 go_loopw [46] (fun v wr=>∃k:Nat,k≤y.r.length∧v=.int .i64 (k:Int)∧∃BL hf Y' K' P' Q',Hid (SpI S B a X b T Y P i w.heap.size y.r.length y.r w1 wr BL hf Y' K' P' Q')∧Hid (BL.length=k)) (fun v _=>y.r.length-(RowKit.intOf v).toNat)
 case atStart=>exact⟨0,Nat.zero_le _,rfl,[],_,Y,K,P,Q,ST,hide rfl⟩
 case round=>
  obtain⟨k,hk,rfl,BL,hf,Y',K',P',Q',SI,BN⟩:=hrel
  clear ST BM
  have hX1:=Y1.out.size
  by_cases hlk:k<y.r.length
  ·have hlk':(k:Int)<(y.r.length:Int):=by omega
   have RY:Hid (RwB wr y.b y.r):=(HR.out.1.below Y1.out).keptT SI.out.kp NR1.out
   obtain⟨q1,q2⟩:=RY.out.cell hlk
   go_upto_region 9 with fail
   have Z1:Hid (Below wr.heap.size wr (wr.alloc (.cells #[.int .i32 (y.r[k]).1,.int .i32 (y.r[k]).2] 134))):=al (Below.refl _ _) _
   have p0:(wr.alloc (.cells #[.int .i32 (y.r[k]).1,.int .i32 (y.r[k]).2] 134)).cell? ⟨wr.heap.size,1,none⟩=some (.int .i32 (y.r[k]).2):=by simp
   have LF2:=hide (SI.out.lf.below Z1.out)
   have BL2:=hide (SI.out.bl.below Z1.out)
   have RW2:Hid (∀j (h:j<BL.length),RwB (wr.alloc (.cells #[.int .i32 (y.r[k]).1,.int .i32 (y.r[k]).2] 134)) (BL[j]).b (BL[j]).r):=fun j hj=>(SI.out.row j hj).1.below Z1.out
   have KP2:=hide (SI.out.kp.trans (Kept.of_below Z1.out))
   have SZ2:=hide (Nat.le_trans SI.out.kp.size Z1.out.size)
   clear q1 q2 RY
   generalize wr.alloc (.cells #[.int .i32 (y.r[k]).1,.int .i32 (y.r[k]).2] 134)=w2 at *
   generalize wr.heap.size=nb at *
   have HIN:Hid (inW ((layL X).drop (i+1)++b.lay::T) (y.r[k]).2):=by
    have ok:=runs_ok g (szL S (X[i]).lv).toNat
    rw[←HG.out] at ok
    obtain⟨g0,g1,g2,g3⟩:=ok.each k hlk
    rw[←g3 (loR y.r k).toNat (by omega) (by omega)]
    exact HGV.out _ (by omega)
   obtain⟨tk,htk⟩:∃tk:Nat,(y.r[k]).2=(tk:Int):=⟨(y.r[k]).2.toNat,by have:=HIN.out.1;omega⟩
   rw[htk] at p0 HIN
   have HTK:=hide htk
   have CS:=hide (IH.out w2 Y' K' P' Q' tk LF2.out SI.out.lp HIN.out)
   clear htk
   obtain⟨⟨vr,hvr⟩,fr⟩:=BL2.out.room hlk
   go_wp2_with (go_at_call 58;refine CS.out.mono ?_;rintro en w3 ⟨x,rfl,rx,fx,f,hfx,Y3,K3,P3,Q3,lf3,lp3,ex3,sp3,kp3,pn3⟩;have RX:=hide rx;have FX:=hide (And.intro fx hfx);have LF3:=hide lf3;have LP3:=hide lp3;have EX3:=hide ex3;have SP3:=hide sp3;have KP3:=hide kp3;have PN3:=hide pn3;have NBB:Hid (¬LfF a X.length P' w.heap.size):=(fun hF=>(by have h1:=SI.out.pn _ hF;rcases h1 with h1|h1;(exact absurd (HH.out.size _ h1) (Nat.lt_irrefl _));(have:=SZ1.out;omega)));have BL3:=hide (BL2.out.kept kp3 NBB.out);clear rx fx hfx lf3 lp3 ex3 sp3 kp3 pn3;obtain⟨⟨vr3,hvr3⟩,fr3⟩:=BL3.out.room hlk)
   go_roundw
   case rel=>
    have kb:Kept (fun z=>z=w.heap.size) w3 (w3.setCell ⟨w.heap.size,k,none⟩ (.slice (some ⟨x.b,0,none⟩) x.r.length x.c)):=Kept.setCell (F:=fun z=>z=w.heap.size) (p:=⟨w.heap.size,k,none⟩) (Kept.refl _ _) rfl _
    obtain⟨cs3,hcs3,_⟩:=BL3.out
    have nr3:NoRun w3 (fun z=>z=w.heap.size):=fun z hz cs e=>by subst hz;exact ty_ne hcs3 e (by decide) rfl
    have hw1:=SZ1.out
    have nb3:¬LfF a X.length P3 w.heap.size:=fun hF=>by
     rcases PN3.out _ hF with h1|h1
     ·exact NBB.out h1
     ·have:=SZ2.out
      omega
    have LF4:=LF3.out.kept kb (fun z hz=>by
     subst hz
     refine⟨HH.out.hB,nb3,fun e=>?_,fun e=>?_,fun e=>?_⟩
     ·have:=lt_of_block HH.out.blk
      omega
     ·obtain⟨cs,k1,_⟩:=HH.out.kno
      have:=lt_of_block k1
      omega
     ·obtain⟨cs,k1,_⟩:=HH.out.mad
      have:=lt_of_block k1
      omega) nr3
    have hpush:=BL3.out.push x (by rw[BN.out];exact hlk)
    rw[BN.out] at hpush
    have RW3:∀ {bq:Nat} {rq:List Rn},RwB w2 bq rq→RwB (w3.setCell ⟨w.heap.size,k,none⟩ (.slice (some ⟨x.b,0,none⟩) x.r.length x.c)) bq rq:=fun hq=>(hq.keptT KP3.out LF2.out.nor).keptT kb nr3
    refine⟨k+1,by omega,by go_num,BL++[x],fun j=>if j=k then f else hf j,Y3,K3,P3,Q3,hide ⟨LF4,LP3.out,SI.out.ex.trans EX3.out,hpush,fun j hj=>?_,?_,fun z hz=>?_⟩,hide (by rw[List.length_append,List.length_singleton,BN.out])⟩
    ·rw[List.length_append,List.length_singleton,BN.out] at hj
     by_cases hjk:j<k
     ·have hjb:j<BL.length:=by rw[BN.out];exact hjk
      obtain⟨r1,r2,r3,r4,r5⟩:=SI.out.row j hjb
      rw[List.getElem_append_left hjb]
      simp only[if_neg (show ¬j=k by omega)]
      exact⟨RW3 (RW2.out j hjb),r2,r3,r4,r5.ext SI.out.lp.inv EX3.out⟩
     ·have e:j=k:=by omega
      subst e
      have e2:(BL++[x])[j]'(by rw[List.length_append,List.length_singleton,BN.out];omega)=x:=by
       rw[List.getElem_append_right (by rw[BN.out];exact Nat.le_refl _)]
       simp
      rw[e2]
      simp only[↓reduceIte]
      refine⟨RX.out.keptT kb nr3,FX.out.2,FX.out.1,hlk,?_⟩
      rw[HTK.out]
      exact SP3.out
    ·exact(KP2.out.trans_new KP3.out (fun z hz hF=>.inl ((SI.out.pn z hF).resolve_right (by omega)))).trans (kb.mono (fun z e=>.inr e))
    ·rcases PN3.out z hz with h1|h1
     ·exact SI.out.pn z h1
     ·exact .inr (Nat.le_trans SZ2.out h1)
   case measure=>simp[RowKit.intOf];omega
  ·have hlk':¬(k:Int)<(y.r.length:Int):=by omega
   obtain rfl:k=y.r.length:=by omega
   go_upto_region 11 with fail
   have XD:Hid (Below wr.heap.size wr wr.drew):=(Below.refl _ wr).drew
   have LFD:=hide (SI.out.lf.below XD.out)
   have BLD:=hide (SI.out.bl.below XD.out)
   have RWD:Hid (∀j (h:j<BL.length),RwB wr.drew (BL[j]).b (BL[j]).r):=fun j hj=>(SI.out.row j hj).1.below XD.out
   have RYD:Hid (RwB wr.drew y.b y.r):=((HR.out.1.below Y1.out).keptT SI.out.kp NR1.out).below XD.out
   have KPD:=hide (SI.out.kp.trans (Kept.of_below XD.out))
   have NBB:Hid (¬LfF a X.length P' w.heap.size):=fun hF=>by
    rcases SI.out.pn _ hF with h1|h1
    ·exact absurd (HH.out.size _ h1) (Nat.lt_irrefl _)
    ·have:=SZ1.out
     omega
   have hYl:i<Y'.length:=by rw[LFD.out.yl];exact hi
   have HYG:Hid (Y'[i]? =some (Y'.getD i (0,[]))):=by unfold Hid;rw[List.getD_eq_getElem?_getD,List.getElem?_eq_getElem hYl];rfl
   have hyd:Y'.drop i=Y'.getD i (0,[])::Y'.drop (i+1):=by
    rw[drop_cons hYl,List.getD_eq_getElem?_getD,List.getElem?_eq_getElem hYl];rfl
   have hwf:Wf S (Y'.getD i (0,[])::(Y'.drop (i+1)++T)):=by
    have:=SI.out.lp.inv.wf.drop i
    rw[hyd] at this
    exact this
   have hyw:(Y'.getD i (0,[])).2.length≤M*(szL S b.lv).toNat+2:=by
    have:=HB.out.ywid SI.out.lp.inv i
    rw[hyd] at this
    exact this
   have hwX:Wf S ((X[i]).lay::((layL X).drop (i+1)++b.lay::T)):=by
    have:=HB.out.wf.drop i
    rw[layL_drop hi] at this
    exact this
   have hsA:=HB.out.sz.at hwX.1.ge hwX.1.lt
   have hsB:=HB.out.sz.at (Wf.tail HB.out.wf).1.ge (Wf.tail HB.out.wf).1.lt
   have hmul:(M+1)*(szL S b.lv).toNat=M*(szL S b.lv).toNat+(szL S b.lv).toNat:=Nat.succ_mul _ _
   have hfew:(M+1)*(szL S b.lv).toNat+2<2147483647:=HB.out.few
   have TX:Hid (TnX wr.drew y.b y.r w.heap.size BL (a.tb i) (Y'.getD i (0,[])).2 (P' i) (fun k=>∃cs,wr.drew.heap[k]? =some (.cells cs 134 (0,0))) g hf (szL S (X[i]).lv).toNat (szL S b.lv).toNat):=by
    refine⟨RYD.out,HG.out,?_,?_,?_,?_,BLD.out.tnb,BN.out,fun k hk=>⟨RWD.out k hk,(SI.out.row k hk).2.1,(SI.out.row k hk).2.2.1⟩,fun k c hk hc=>?_,(LFD.out.tab i hi).run,hwf.1.nod,fun hF=>NBB.out ⟨i,hi,.inl hF⟩,fun hq=>?_,by omega⟩
    ·have:1≤szL S (X[i]).lv:=hsA.1
     omega
    ·have:szL S (X[i]).lv≤256:=hsA.2
     omega
    ·have:1≤szL S b.lv:=hsB.1
     omega
    ·have:szL S b.lv≤256:=hsB.2
     omega
    ·obtain⟨_,r5⟩:=(SI.out.row k (by rw[BN.out];exact hk)).2.2.2
     have h5:=(r5 c hc).1
     have h6:=HB.out.ywid SI.out.lp.inv (i+1)
     have h7:wid (Y'.drop (i+1)++T)≤M*(szL S b.lv).toNat+2:=h6
     have h8:=h5.1
     have h9:=h5.2
     exact⟨h8,by omega⟩
    ·obtain⟨cs,h1⟩:=hq
     obtain⟨cs',h2,_⟩:=BLD.out
     exact ty_ne h2 h1 (by decide) rfl
   have TC:=hide (turn_any (rc:=y.c) (bc:=y.r.length) TX.out)
   rw[BN.out] at TC
   refine wp_unt (S:=fun V=>V.cell? ⟨a.l,1,none⟩=some (.slice (some ⟨a.kb,0,none⟩) X.length a.kc)∧V.cell? ⟨a.l,2,none⟩=some (.slice (some ⟨a.mb,0,none⟩) X.length a.mc)∧V.cell? ⟨a.kb,i,none⟩=some (.slice (some ⟨a.kn i,0,none⟩) (X[i]).Rs.length (a.kk i))∧V.cell? ⟨a.mb,i,none⟩=some (.pointer (some ⟨a.tb i,0,none⟩))) 19 (by kernel_rfl) ?_
   clear hyw hsA hsB hmul hfew hwX hwf hyd
   generalize wr.drew=wd at *
   have HS0:Hid (wd.cell? ⟨a.l,1,none⟩=some (.slice (some ⟨a.kb,0,none⟩) X.length a.kc)∧wd.cell? ⟨a.l,2,none⟩=some (.slice (some ⟨a.mb,0,none⟩) X.length a.mc)∧wd.cell? ⟨a.kb,i,none⟩=some (.slice (some ⟨a.kn i,0,none⟩) (X[i]).Rs.length (a.kk i))∧wd.cell? ⟨a.mb,i,none⟩=some (.pointer (some ⟨a.tb i,0,none⟩))):=⟨LFD.out.cells.2.1,LFD.out.cells.2.2,(LFD.out.kncell hi).1,(LFD.out.kncell hi).2⟩
   refine UntH.tk 0 rfl 61 HS0.out (fun w' ⟨q0,q1,q2,q3⟩=>by go_simp;first|done|rfl) ?_
   refine UntH.tk 1 rfl 62 HS0.out (fun w' ⟨q0,q1,q2,q3⟩=>by go_simp;first|done|rfl) ?_
   refine UntH.tk 2 rfl 63 HS0.out (fun w' ⟨q0,q1,q2,q3⟩=>by go_simp;first|done|rfl) ?_
   refine UntH.tk 3 rfl 64 HS0.out (fun w' ⟨q0,q1,q2,q3⟩=>by go_simp;first|done|rfl) ?_
   refine UntH.tk 4 rfl 65 HS0.out (fun w' ⟨q0,q1,q2,q3⟩=>by go_simp;first|done|rfl) ?_
   refine UntH.tk 5 rfl 66 HS0.out (fun w' ⟨q0,q1,q2,q3⟩=>by go_simp;first|done|rfl) ?_
   refine UntH.tk 6 rfl 67 HS0.out (fun w' ⟨q0,q1,q2,q3⟩=>by go_simp;first|done|rfl) ?_
   refine UntH.tk 7 rfl 68 HS0.out (fun w' ⟨q0,q1,q2,q3⟩=>by go_simp;first|done|rfl) ?_
   refine UntH.tk 8 rfl 69 HS0.out (fun w' ⟨q0,q1,q2,q3⟩=>by go_simp;first|done|rfl) ?_
   refine UntH.tk 9 rfl 70 HS0.out (fun w' ⟨q0,q1,q2,q3⟩=>by go_simp;first|done|rfl) ?_
   refine UntH.tk 10 rfl 71 HS0.out (fun w' ⟨q0,q1,q2,q3⟩=>by go_simp;first|done|rfl) ?_
   refine UntH.tk 11 rfl 72 HS0.out (fun w' ⟨q0,q1,q2,q3⟩=>by go_simp;first|done|rfl) ?_
   refine UntH.tk 12 rfl 73 HS0.out (fun w' ⟨q0,q1,q2,q3⟩=>by go_simp;first|done|rfl) ?_
   refine UntH.tk 13 rfl 74 HS0.out (fun w' ⟨q0,q1,q2,q3⟩=>by go_simp;first|done|rfl) ?_
   refine UntH.tk 14 rfl 75 HS0.out (fun w' ⟨q0,q1,q2,q3⟩=>by go_simp;first|done|rfl) ?_
   refine UntH.tk 15 rfl 76 HS0.out (fun w' ⟨q0,q1,q2,q3⟩=>by go_simp;first|done|rfl) ?_
   refine UntH.tk 16 rfl 77 HS0.out (fun w' ⟨q0,q1,q2,q3⟩=>by go_simp;first|done|rfl) ?_
   try simp only[Act.put,List.setIfInBounds_toArray,List.set_cons_zero,List.set_cons_succ]
   refine UntH.step (i:=17) (by kernel_rfl) rfl (fun K hK=>?_)
   go_simp
   refine TC.out.mono ?_
   rintro en w6 ⟨idx,U,P5,g5,c5,rfl,rw6,lg6,cl6,cm6,tb6,nd6,us6,ix6,kp6,pn6⟩
   have hfit6:RFit (rlN idx (szL S b.lv).toNat):=rlN_fit TX.out.b0 TX.out.b1 (fun c hc=>by
    obtain⟨h1,h2⟩:=ix6 c hc
    have h3:(idx c).toNat<((Y'.getD i (0,[])).2++U).length:=by
     rcases Nat.lt_or_ge (idx c).toNat ((Y'.getD i (0,[])).2++U).length with h3|h3
     ·exact h3
     ·rw[List.getElem?_eq_none h3] at h2;cases h2
    have h4:U.length≤(szL S b.lv).toNat:=by
     have:=pigR (R:=fun(r:List Rn) (c:Nat)=>r=colF hf y.r (szL S (X[i]).lv).toNat c) U (List.range (szL S b.lv).toNat) (List.nodup_append.1 nd6).2.1 (fun r hr=>by
      obtain⟨c,h5,h6⟩:=us6 r hr
      exact⟨c,List.mem_range.2 h5,h6⟩) (fun _ _ _ _ _ h5 h6=>h5.trans h6.symm)
     rwa [List.length_range] at this
    have h5:=TX.out.few
    rw[List.length_append] at h3
    exact⟨h1,by omega⟩)
   obtain⟨r5,hr5⟩:∃r5,rlN idx (szL S b.lv).toNat=r5:=⟨_,rfl⟩
   rw[hr5] at rw6 cl6 hfit6 ⊢
   have HR5:=hide hr5
   have HF5:=hide hfit6
   clear hr5 hfit6
   have TL:=hide (And.intro nd6 (And.intro us6 ix6))
   have R6:=hide rw6
   have C6:=hide (And.intro cl6 cm6)
   have K6:=hide kp6
   have P6:=hide pn6
   have hbt:∃cs,wd.heap[w.heap.size]? =some (.cells cs 102 (0,0)):=by
    obtain⟨cs',h2,_⟩:=BLD.out
    exact⟨cs',h2⟩
   have LF6:=hide (LFD.out.turn hi (bb:=w.heap.size) (fun j hj=>⟨fun hF=>NBB.out ⟨j,hj,.inl hF⟩,fun e=>NBB.out ⟨j,hj,.inr e.symm⟩⟩) HH.out.hB hbt kp6 tb6 pn6)
   have HS6:Hid (w6.cell? ⟨a.l,1,none⟩=some (.slice (some ⟨a.kb,0,none⟩) X.length a.kc)∧w6.cell? ⟨a.l,2,none⟩=some (.slice (some ⟨a.mb,0,none⟩) X.length a.mc)∧w6.cell? ⟨a.kb,i,none⟩=some (.slice (some ⟨a.kn i,0,none⟩) (X[i]).Rs.length (a.kk i))∧w6.cell? ⟨a.mb,i,none⟩=some (.pointer (some ⟨a.tb i,0,none⟩))):=⟨LF6.out.cells.2.1,LF6.out.cells.2.2,(LF6.out.kncell hi).1,(LF6.out.kncell hi).2⟩
   refine hK _ _ HS6.out ?_
   clear hK K rw6 lg6 cl6 cm6 tb6 nd6 us6 ix6 kp6 pn6 hbt TC
   try simp only[Act.put,List.setIfInBounds_toArray,List.set_cons_zero,List.set_cons_succ]
   refine UntH.tk 18 rfl 79 HS6.out (fun w' ⟨q0,q1,q2,q3⟩=>by go_simp;first|done|rfl) ?_
   obtain⟨kc6,kf6⟩:=(LF6.out.knb i hi).cell HT'.out
   refine UntH.last (by kernel_rfl) rfl (by kernel_rfl) (by kernel_rfl) (fun K hK=>?_)
   go_simp
   refine hK _ _ ?_
   clear hK K
   obtain⟨lf7,kp7⟩:=LF6.out.know hi HT'.out (x:=⟨g5,c5,r5⟩) R6.out ⟨HF5.out,C6.out⟩ rfl
   have LF7:=hide lf7
   have KP7:=hide kp7
   have R7:Hid (RwB (w6.setCell ⟨a.kn i,t,none⟩ (.slice (some ⟨g5,0,none⟩) r5.length c5)) g5 r5):=R6.out.keptT kp7 (fun z hz cs e=>by
    subst hz
    obtain⟨cs',h2⟩:=(LF6.out.knb i hi).ty
    exact ty_ne h2 e (by decide) rfl)
   clear lf7 kp7 kc6 kf6
   have hv:(RD.mk g5 c5 r5).v=.slice (some ⟨g5,0,none⟩) r5.length c5:=rfl
   rw[hv] at LF7 KP7
   clear hv
   generalize w6.setCell ⟨a.kn i,t,none⟩ (.slice (some ⟨g5,0,none⟩) r5.length c5)=w7 at *
   have d1:=LF7.out.cells.2.1
   have d2:=(LF7.out.kncell hi).1
   have d3:=((LF7.out.knb i hi).cell HT'.out).1
   simp only[↓reduceIte,setK,RD.v] at d3
   go_wp2
   go_ret
   have hlay:(layL X)[i]? =some (X[i]).lay:=layL_at hi
   have TO:=turn_ok (X:=layL X) (b:=b.lay) (T:=T) SI.out.lp.inv HB.out.wf (i:=i) (by simpa using hi) HT.out hlay HYG.out (g:=g) (by rw[Int.toNat_natCast,HGD.out];exact HG.out) (H:=fun c=>hf (runIx y.r (c:Int))) (fun c hc=>by
    have ok:=runs_ok g (szL S (X[i]).lv).toNat
    rw[←HG.out] at ok
    obtain⟨h1,h2⟩:=ok.ix_lt (show c<(szL S (X[i]).lv).toNat from hc)
    rw[h2]
    obtain⟨_,r5⟩:=(SI.out.row _ (by rw[BN.out];exact h1)).2.2.2
    exact r5) TL.out.1 TL.out.2.1 TL.out.2.2
   obtain⟨t1,t2,t3⟩:=TO
   have hw1:=SZ1.out
   have hs1:=KPD.out.size
   have hs6:=K6.out.size
   refine⟨⟨g5,c5,r5⟩,rfl,R7.out,⟨HF5.out,C6.out⟩,idx,HR5.out.symm,_,_,_,_,LF7.out,⟨t1,fun j t' x hj hx=>?_⟩,SI.out.ex.trans t2,t3,?_,fun z hz=>?_⟩
   ·by_cases e:j=i
    ·subst e
     simp only[↓reduceIte,setK] at hx
     split at hx
     ·rename_i e2
      injection hx with hx
      subst hx e2
      exact⟨idx,HR5.out.symm,t3⟩
     ·obtain⟨f,h1,h2⟩:=SI.out.lp.kno j t' x hj hx
      exact⟨f,h1,h2.ext SI.out.lp.inv t2⟩
    ·simp only[if_neg e] at hx
     obtain⟨f,h1,h2⟩:=SI.out.lp.kno j t' x hj hx
     exact⟨f,h1,h2.ext SI.out.lp.inv t2⟩
   ·have ka:Kept (LfF a X.length P) w wd:=(Kept.of_below Y1.out).trans_new KPD.out (fun z hz hF=>hF.elim id (fun e=>by omega))
    have kb:Kept (LfF a X.length P) w w6:=ka.trans_new K6.out (fun z hz hF=>by
     rcases hF with hF|hF
     ·exact(SI.out.pn z ⟨i,hi,.inl hF⟩).resolve_right (by omega)
     ·omega)
    exact kb.trans (KP7.out.mono (fun z e=>⟨i,hi,.inr e⟩))
   ·obtain⟨j,hj,h1|h1⟩:=hz
    ·by_cases e:j=i
     ·subst e
      simp only[↓reduceIte] at h1
      rcases P6.out z h1 with h2|h2
      ·exact(SI.out.pn z ⟨j,hj,.inl h2⟩).imp id (fun h=>by omega)
      ·exact .inr (by omega)
     ·simp only[if_neg e] at h1
      exact(SI.out.pn z ⟨j,hj,.inl h1⟩).imp id (fun h=>by omega)
    ·exact .inl ⟨j,hj,.inr h1⟩
theorem split_any (hB:LfB S (layL X) b.lay T M) (h12:X.length≤12):∀(d i:Nat),i+d=X.length→∀(w:World) (Y:List Lay) (K:Nat→Nat→Option RD) (P Q:Nat→Nat→Prop) (t:Nat),LfS w B a X b Y K P Q→LfP S (layL X) b.lay T Y K→inW ((layL X).drop i++b.lay::T) (t:Int)→Calls Try.prog 58 #[.pointer (some ⟨a.l,0,none⟩),.int .i64 (i:Int),.int .i32 (t:Int)] w fun e w'=>SpL S B a X b T Y P i t w e w':=by
 intro d
 induction d with
 |zero=>
  intro i e w Y K P Q t h hp ht
  obtain rfl:i=X.length:=by omega
  exact split_last hB h hp ht
 |succ d ih=>
  intro i e w Y K P Q t h hp ht
  have hi:i<X.length:=by omega
  cases hk:K i t with
  |none=>exact split_miss hB hi h12 (fun w Y K P Q t h hp ht=>ih (i+1) (by omega) w Y K P Q t h hp ht) h hp ht hk
  |some x=>exact split_hit hB h hp hi ht hk
end
end Go.Proofs.Ytnddhkhmbjeefaa

