/-
  lift by its contract. Condition: as many rows as places of 30 bits can tell; at most 12 layers.
-/
import Derived.Test.YtnddhkhmbjeefaaC15
namespace Go.Proofs.Ytnddhkhmbjeefaa
open Go.RowKit Go.Lib Go.Maps
def LiL (S:List Int) (ra:Option Addr) (rc:Nat) (R:List Int) (A X:List LA) (b:LA) (T:List LA) (most:Int) (w:World) (e:Ending) (w':World):Prop:=
 ∃r1 n1 c1 l1 n2 c2 bb,e=.returned (.tuple #[.agg #[.slice r1 n1 c1,.slice l1 n2 c2],.bool bb])∧Below w.heap.size w w'∧
  (bb=true→r1=ra∧n1=R.length∧c1=rc∧n2=(A++(X++b::T)).length∧∃lb Ls' Y fr,l1=some ⟨lb,0,none⟩∧DgX w' w'.heap.size ra lb c2 R Ls'∧layL Ls'=layL A++(b.lv,fr)::(Y++layL T)∧TInv S (layL X) b.lay (layL T) Y∧fr.length=wid (layL X++b.lay::layL T)∧(∀(t:Nat) (ht:t<fr.length),∃x,fr[t]=rlN x (szL S b.lv).toNat∧SplOk S (layL X) b.lay (layL T) Y 0 (t:Int) x))∧
  (bb=false→∃Y,TInv S (layL X) b.lay (layL T) Y∧most+2<(wid (Y++layL T):Int))
section
variable {S:List Int} {w:World} {B lb lc rc:Nat} {ra:Option Addr} {R:List Int} {A X T:List LA} {b:LA} {M:Nat} {most:Int}
set_option maxRecDepth 100000 in
set_option maxHeartbeats 4000000 in
theorem lift_any (hB:LfB S (layL X) b.lay (layL T) M) (hM:(M+1)*(szL S b.lv).toNat+2<1073741824) (D:DgX w B ra lb lc R (A++(X++b::T))) (h0:0<X.length) (h12:(A++(X++b::T)).length≤12):
 Calls Try.prog 32 #[dgV ra R.length rc lb (A++(X++b::T)).length lc,.int .i64 ((A.length+X.length:Nat):Int),.int .i64 (A.length:Int),.int .i64 most] w fun e w'=>LiL S ra rc R A X b T most w e w':=by
 have HB:=hide hB
 have HM:=hide hM
 have HD:=hide D
 have hlc:=D.c1
 have hlm:=D.c2
 have hlen:(A++(X++b::T)).length=A.length+X.length+T.length+1:=by simp;omega
 have LAY:Hid (LaysAt w B lb A.length (X++[b])):=by
  have:=D.lay
  rw[show A++(X++b::T)=A++(X++[b])++T by simp] at this
  have:=this.part
  rw[Nat.zero_add] at this
  exact this
 obtain⟨x0,hx0⟩:∃x0,X[0]? =some x0:=⟨X[0],List.getElem?_eq_getElem h0⟩
 have HX0:=hide hx0
 have hBw:=D.hB
 have NL:=hide (fun(W:World) (x:Below w.heap.size w W)=>newLifting_any (w:=W) (oc:=lc-A.length) HB.out.sz HB.out.wf (LAY.out.below (x.mono hBw)) (Nat.le_trans hBw x.size) h0 (by omega) (by omega))
 have CB:=hide (fun(W:World) (x:Below w.heap.size w W)=>((D.below (x.mono hBw)).lay.cl (A.length+X.length) (by omega)))
 have eb:(A++(X++b::T))[A.length+X.length]'(by omega)=b:=by
  rw[List.getElem_append_right (by omega)]
  simp
 simp only[eb,Nat.zero_add] at CB
 have CX:=hide (fun(W:World) (x:Below w.heap.size w W)=>((D.below (x.mono hBw)).lay.cl A.length (by omega)))
 have ex0:(A++(X++b::T))[A.length]'(by omega)=x0:=by
  rw[List.getElem_append_right (Nat.le_refl _)]
  simp only[Nat.sub_self]
  rw[List.getElem_append_left h0]
  rw[List.getElem?_eq_getElem h0] at hx0
  exact Option.some.inj hx0
 simp only[ex0,Nat.zero_add] at CX
 have HLEN:=hide hlen
 obtain⟨n,hn⟩:∃n,(A++(X++b::T)).length=n:=⟨_,rfl⟩
 rw[hn] at h12 hlc hlen ⊢
 have HN:=hide hn
 obtain⟨t0,ht0⟩:∃t0,A.length=t0:=⟨_,rfl⟩
 obtain⟨m0,hm0⟩:∃m0,X.length=m0:=⟨_,rfl⟩
 obtain⟨f0,hf0⟩:∃f0,t0+m0=f0:=⟨_,rfl⟩
 rw[ht0,hm0] at hlen
 rw[ht0,hm0,hf0]
 simp only[ht0,hm0,hf0] at NL CB CX
 have HT0:=hide ht0
 have HM0:=hide hm0
 have HF0:=hide hf0
 rw[hm0] at h0
 have hfm:t0<f0∧f0<n∧f0+1≤lc∧f0≤12∧f0+1-t0=m0+1:=by omega
 obtain⟨hf1,hf2,hf3,hf4,hf5⟩:=hfm
 clear hB hM D hn ht0 hm0 hf0 hlen eb ex0 hx0
 have hne:((f0:Int)==(t0:Int))=false:=by simp;omega
 have e1:IntKind.i64.wrap ((f0:Int)+1)=((f0+1:Nat):Int):=by simp[IntKind.wrap,IntKind.bits,IntKind.signed];omega
 have e2:(t0:Int)≤((f0+1:Nat):Int):=by omega
 have e3:((f0+1:Nat):Int)≤(lc:Int):=by omega
 have e5:¬lc-t0=0:=by omega
 have Y1:Hid (Below w.heap.size w ((w.alloc (.cells #[.slice ra R.length rc,.slice (some ⟨lb,0,none⟩) n lc] 70)).alloc (.cells #[.slice none 0 0,.slice none 0 0] 70))):=al (al (Below.refl _ _) _) _
 have D1:Hid (((w.alloc (.cells #[.slice ra R.length rc,.slice (some ⟨lb,0,none⟩) n lc] 70)).alloc (.cells #[.slice none 0 0,.slice none 0 0] 70)).heap[w.heap.size]? =some (.cells #[.slice ra R.length rc,.slice (some ⟨lb,0,none⟩) n lc] 70 (0,0))):=((al (Below.refl _ _) _).block w.heap.size (by simp)).trans (heap_alloc_new w _)
 have R1:Hid (((w.alloc (.cells #[.slice ra R.length rc,.slice (some ⟨lb,0,none⟩) n lc] 70)).alloc (.cells #[.slice none 0 0,.slice none 0 0] 70)).heap[w.heap.size+1]? =some (.cells #[.slice none 0 0,.slice none 0 0] 70 (0,0))):=by
  have:=heap_alloc_new (w.alloc (.cells #[.slice ra R.length rc,.slice (some ⟨lb,0,none⟩) n lc] 70)) (.cells #[.slice none 0 0,.slice none 0 0] 70)
  rw[show(w.alloc (.cells #[.slice ra R.length rc,.slice (some ⟨lb,0,none⟩) n lc] 70)).heap.size=w.heap.size+1 by simp] at this
  exact this
 go_enter Try.func32,Try.ntmps32
 go_upto_region 3 with fail
 generalize (w.alloc (.cells #[.slice ra R.length rc,.slice (some ⟨lb,0,none⟩) n lc] 70)).alloc (.cells #[.slice none 0 0,.slice none 0 0] 70)=w1 at *
 have d1:w1.cell? ⟨w.heap.size,1,none⟩=some (.slice (some ⟨lb,0,none⟩) n lc):=by rw[cell_of_row w1 _ _ _ _ _ D1.out];rfl
 have NLC:=hide (NL.out w1 Y1.out)
 go_upto_region 4 with(go_at_call 57;refine NLC.out.mono ?_;rintro en w2 ⟨l,rfl,a,P,Q,ha1,ha2,ha3,ha4,lf2,x2,lp2⟩;have LF2:=hide lf2;have X2:=hide x2;have LP2:=hide lp2;have HA1:=hide ha1;clear lf2 x2 lp2 ha1 ha2 ha3 ha4)
 have S1:Hid (w.heap.size+1<w1.heap.size):=lt_of_block R1.out
 have DF:Hid (∀W,Below w1.heap.size w1 W→W.cell? ⟨w.heap.size,1,none⟩=some (.slice (some ⟨lb,0,none⟩) n lc)∧W.cell? ⟨w.heap.size,0,none⟩=some (.slice ra R.length rc)):=fun W x=>by
  have hb:=(x.block _ (lt_of_block D1.out)).trans D1.out
  exact⟨by rw[cell_of_row W _ _ _ _ _ hb];rfl,by rw[cell_of_row W _ _ _ _ _ hb];rfl⟩
 have d2:=(DF.out w2 X2.out).1
 have c2:=(CB.out w2 (bt Y1.out X2.out (Nat.le_refl _))).1
 have hfl:(f0:Int)<(n:Int):=by omega
 have htl:(t0:Int)<(n:Int):=by omega
 clear d1 NLC NL
 go_upto_region 5 with fail
 have Y3:Hid (Below w2.heap.size w2 (w2.alloc (.cells #[.int .i64 b.lv,.slice none 0 0] 105))):=al (Below.refl _ _) _
 have FBK:Hid ((w2.alloc (.cells #[.int .i64 b.lv,.slice none 0 0] 105)).heap[w2.heap.size]? =some (.cells #[.int .i64 b.lv,.slice none 0 0] 105 (0,0))):=heap_alloc_new w2 _
 have LP0:Hid (LfP S (layL X) b.lay (layL T) (tab0 S (layL X)) (fun _ _=>none)):=⟨TInv.start HB.out.sz HB.out.wf,fun i t x _ hx=>by cases hx⟩
 have ST:Hid (FrI S w1 (w2.alloc (.cells #[.int .i64 b.lv,.slice none 0 0] 105)) B a X b (layL T) w2.heap.size [] (.slice none 0 0) (tab0 S (layL X)) (fun _ _=>none) P Q):=by
  refine⟨LF2.out.below Y3.out,LP0.out,FBK.out,World.ownsRow_nil _ _ _ _,fun j h=>(by cases h),⟨fun hF=>absurd (LF2.out.size _ hF) (Nat.lt_irrefl _),fun z hz=>(by cases hz)⟩,LP2.out,bt X2.out Y3.out (Nat.le_refl _),X2.out.size⟩
 clear d2 c2 FBK LP0
 generalize hw3:w2.alloc (.cells #[.int .i64 b.lv,.slice none 0 0] 105)=w3 at *
 have FBS:Hid (w2.heap.size<w3.heap.size):=by unfold Hid;rw[←hw3];simp
 clear hw3
 generalize w2.heap.size=fb at *
 have d3:=(DF.out w3 ST.out.bel).1
 have c3:=(CX.out w3 (bt Y1.out ST.out.bel (Nat.le_refl _))).2
 have HN0:Hid (x0.Rs.length=wid (layL X++b.lay::layL T)∧x0.Rs.length≤1073741824):=by
  have hx:=HX0.out
  cases hX:X with
  |nil=>rw[hX] at hx;simp at hx
  |cons x X'=>
   rw[hX] at hx
   simp at hx
   subst hx
   exact⟨by simp[layL,wid,LA.lay,rdR],(LAY.out.ly x (by rw[hX];simp)).few⟩
 generalize x0.Rs.length=n0 at *
 go_wp2
 clear d3 c3
 go_loopw [41] (fun v wr=>∃k:Nat,k≤n0∧v=.int .i64 (k:Int)∧∃FR fv Y K P Q,Hid (FrI S w1 wr B a X b (layL T) fb FR fv Y K P Q)∧Hid (FR.length=k)) (fun v _=>n0-(RowKit.intOf v).toNat)
 case atStart=>exact⟨0,Nat.zero_le _,rfl,[],_,_,_,_,_,ST,hide rfl⟩
 case round=>
  obtain⟨k,hk,rfl,FR,fv,Y,K,P3,Q3,FI,FN⟩:=hrel
  clear ST
  by_cases hlk:k<n0
  ·have hlk':(k:Int)<(n0:Int):=by omega
   have hn0:=HN0.out.2
   have e6:IntKind.i32.wrap (k:Int)=(k:Int):=by simp[IntKind.wrap,IntKind.bits,IntKind.signed];omega
   obtain⟨i102,hi102,hz0,hz1,hz2⟩:=info_parts Try.info102
   go_upto_region 8 with fail
   have FD:=hide (FI.out.below (Below.refl _ wr).drew)
   obtain⟨fa,fc,hfv,_⟩:=own_shape FD.out.fow
   rw[FN.out] at hfv
   subst hfv
   have SPC:=hide (split_any HB.out (by have:=HM0.out;omega) X.length 0 (by omega) wr.drew Y K P3 Q3 k FD.out.lf FD.out.lp (by
    rw[List.drop_zero]
    exact⟨by omega,by have:=HN0.out.1;omega⟩))
   rw[HA1.out] at SPC
   have HS0:Hid (wr.drew.cell? ⟨fb,1,none⟩=some (.slice fa k fc)):=FD.out.cell.1
   refine wp_unt (S:=fun V=>V.cell? ⟨fb,1,none⟩=some (.slice fa k fc)) 9 (by kernel_rfl) ?_
   generalize wr.drew=wd at *
   clear FI
   refine UntH.tk 0 rfl 44 HS0.out (fun w' q0=>by go_simp;first|done|rfl) ?_
   refine UntH.tk 1 rfl 45 HS0.out (fun w' q0=>by go_simp;first|done|rfl) ?_
   refine UntH.tk 2 rfl 46 HS0.out (fun w' q0=>by go_simp;first|done|rfl) ?_
   refine UntH.tk 3 rfl 47 HS0.out (fun w' q0=>by go_simp;first|done|rfl) ?_
   refine UntH.tk 4 rfl 48 HS0.out (fun w' q0=>by go_simp;first|done|rfl) ?_
   try simp only[Act.put,List.setIfInBounds_toArray,List.set_cons_zero,List.set_cons_succ]
   refine UntH.step (i:=5) (by kernel_rfl) rfl (fun K hK=>?_)
   go_simp
   refine SPC.out.mono ?_
   rintro en w5 ⟨x,rfl,rx,fx,f,hfx,Y5,K5,P5,Q5,lf5,lp5,ex5,sp5,kp5,pn5⟩
   have RX:=hide rx
   have FX:=hide (And.intro fx hfx)
   have LF5:=hide lf5
   have LP5:=hide lp5
   have EX5:=hide ex5
   have SP5:=hide sp5
   have KP5:=hide kp5
   have PN5:=hide pn5
   have B5:Hid (w5.heap[fb]? =some (.cells #[.int .i64 b.lv,.slice fa k fc] 105 (0,0))):=(kp5.block fb (lt_of_block FD.out.fbk) FD.out.dis.1).trans FD.out.fbk
   have O5:=hide (own_kept FD.out.fow kp5 (fun z hz hF=>FD.out.dis.2 z hz hF))
   have HS5:Hid (w5.cell? ⟨fb,1,none⟩=some (.slice fa k fc)):=by unfold Hid;rw[cell_of_row w5 fb _ _ _ _ B5.out];rfl
   refine hK _ _ HS5.out ?_
   clear hK K rx fx hfx lf5 lp5 ex5 sp5 kp5 pn5 SPC
   try simp only[Act.put,List.setIfInBounds_toArray,List.set_cons_zero,List.set_cons_succ]
   have y6:Below w5.heap.size w5 (w5.alloc (.cells #[.slice (some ⟨x.b,0,none⟩) x.r.length x.c] 102)):=al (Below.refl _ _) _
   have X6:=hide y6
   have B6:Hid ((w5.alloc (.cells #[.slice (some ⟨x.b,0,none⟩) x.r.length x.c] 102)).heap[fb]? =some (.cells #[.int .i64 b.lv,.slice fa k fc] 105 (0,0))):=(y6.block fb (lt_of_block B5.out)).trans B5.out
   have O6:=hide (own_below O5.out y6)
   have HS6:Hid ((w5.alloc (.cells #[.slice (some ⟨x.b,0,none⟩) x.r.length x.c] 102)).cell? ⟨fb,1,none⟩=some (.slice fa k fc)):=by unfold Hid;rw[cell_of_row _ fb _ _ _ _ B6.out];rfl
   have HNW:=hide (one_new w5 (.slice (some ⟨x.b,0,none⟩) x.r.length x.c) 102)
   refine UntH.step (i:=6) (by kernel_rfl) rfl (fun K hK=>?_)
   go_simp
   refine hK _ _ HS6.out ?_
   clear hK K y6 O5 B5 HS5
   try simp only[Act.put,List.setIfInBounds_toArray,List.set_cons_zero,List.set_cons_succ]
   generalize w5.alloc (.cells #[.slice (some ⟨x.b,0,none⟩) x.r.length x.c] 102)=w6 at *
   rw[FN.out] at O6
   have SZ6:Hid (w1.heap.size≤w6.heap.size):=Nat.le_trans FD.out.bel.size (Nat.le_trans KP5.out.size X6.out.size)
   refine UntH.step (i:=7) (by kernel_rfl) rfl (fun K hK=>?_)
   refine step_append_lies _ (by rfl) (.tmp 45) (.tmp 50) 98 (by rfl) w1.heap.size 102 i102 (.slice none 0 0) 1 24 Try.underlying98 hi102 hz0 hz1 hz2 rfl (by decide) _ k (rdC FR) (by rfl) O6.out ⟨w5.heap.size,0,none⟩ 1 1 [.slice (some ⟨x.b,0,none⟩) x.r.length x.c] (by rfl) (by rfl) HNW.out (by simp[Value.oneCell']) (by decide) (by unfold maxLen;omega) (by omega) SZ6.out _ rfl ?_
   intro g8 cap8 w8 h1 h2 h3 h4
   have O8:=hide h1
   have G8:=hide h2
   have L8:Hid (∀z,(Value.slice (some ⟨g8,0,none⟩) (k+1) cap8).ownBlock=some z→(Value.slice fa k fc).ownBlock=some z∨w6.heap.size≤z):=fun z hz=>by
    have e:g8=z:=Option.some.inj hz
    subst e
    rcases h3 with h3|h3
    ·exact .inl h3
    ·exact .inr (by omega)
   have B8:Hid (w8.heap[fb]? =some (.cells #[.int .i64 b.lv,.slice fa k fc] 105 (0,0))):=((kept_of_grown h2).block fb (lt_of_block B6.out) (fun hz=>by
    obtain⟨cs',h5⟩:=own_ty O6.out _ hz
    exact ty_ne h5 B6.out (by decide) rfl)).trans B6.out
   have HS8:Hid (w8.cell? ⟨fb,1,none⟩=some (.slice fa k fc)):=by unfold Hid;rw[cell_of_row w8 fb _ _ _ _ B8.out];rfl
   have f8:=frozen_of_row w8 fb 1 _ _ B8.out
   refine hK _ _ HS8.out ?_
   clear hK K h1 h2 h3 h4
   refine UntH.tk 8 rfl 52 HS8.out (fun w' q0=>by go_simp;first|done|rfl) ?_
   have q8:=HS8.out
   refine UntH.last (by kernel_rfl) rfl (by kernel_rfl) (by kernel_rfl) (fun K hK=>?_)
   go_simp
   refine hK _ _ ?_
   clear hK K q8 f8 HS8 HS6 HS0
   have FI9:Hid (FrI S w1 (w8.setCell ⟨fb,1,none⟩ (.slice (some ⟨g8,0,none⟩) (k+1) cap8)) B a X b (layL T) fb (FR++[x]) (.slice (some ⟨g8,0,none⟩) (k+1) cap8) Y5 K5 P5 Q5):=
    FD.out.push (f:=f) KP5.out LF5.out LP5.out EX5.out PN5.out RX.out FX.out.1 FX.out.2 (by rw[FN.out];exact SP5.out) X6.out (by rw[FN.out];exact O8.out) G8.out L8.out rfl (Nat.le_trans hBw Y1.out.size)
   clear O8 G8 L8 B8 B6 O6 HNW X6 LF5 LP5 EX5 SP5 KP5 PN5 RX FX FD
   generalize w8.setCell ⟨fb,1,none⟩ (.slice (some ⟨g8,0,none⟩) (k+1) cap8)=w9 at *
   have hm0X:0<X.length:=by rw[HM0.out];exact h0
   have r1:=FI9.out.lf.cells.2.2
   rw[HA1.out,HM0.out] at r1
   have r2:=(FI9.out.lf.kncell hm0X).2
   obtain⟨y5,hy5⟩:∃y5,wid (Y5++layL T)=y5:=⟨_,rfl⟩
   have hy5':(Y5.getD 0 (0,[])).2.length=y5:=by
    rw[←hy5]
    cases hY:Y5 with
    |nil=>have:=FI9.out.lf.yl;rw[hY] at this;simp at this;omega
    |cons y Y'=>rfl
   have hyb:y5≤M*(szL S b.lv).toNat+2:=by
    have:=HB.out.ywid FI9.out.lp.inv 0
    rw[List.drop_zero,hy5] at this
    exact this
   have hyb2:y5≤1073741824:=by
    have h1:=HM.out
    rw[Nat.succ_mul] at h1
    omega
   obtain⟨Rs5,rv5,mb5,kv5,kn5,kx5,tx5,ht5,_⟩:=FI9.out.lf.tab 0 hm0X
   have r3:=tx5.cells.1
   obtain⟨ra5,rc5,hrv5,_⟩:=own_shape tx5.row
   have hl5:Rs5.length=y5:=by rw[←hy5',←ht5];simp[rdR]
   rw[hl5] at hrv5
   subst hrv5
   have HY5:=hide hy5
   have hge2:2≤y5:=by rw[←hy5];exact FI9.out.lp.inv.wf.two
   have e7:IntKind.i64.wrap ((y5:Int)-2)=(y5:Int)-2:=by simp[IntKind.wrap,IntKind.bits,IntKind.signed];omega
   have hm00:(0:Int)<(m0:Int):=by omega
   clear hy5 hy5' hyb tx5 ht5 hl5
   by_cases hgt:most+2<(y5:Int)
   ·have hgt':most<(y5:Int)-2:=by omega
    have RB:Hid (w9.heap[w.heap.size+1]? =some (.cells #[.slice none 0 0,.slice none 0 0] 70 (0,0))):=(FI9.out.bel.block _ S1.out).trans R1.out
    have s0:w9.cell? ⟨w.heap.size+1,0,none⟩=some (.slice none 0 0):=by rw[cell_of_row w9 _ _ _ _ _ RB.out];rfl
    have s1:w9.cell? ⟨w.heap.size+1,1,none⟩=some (.slice none 0 0):=by rw[cell_of_row w9 _ _ _ _ _ RB.out];rfl
    have g0:=frozen_of_row w9 (w.heap.size+1) 0 _ _ RB.out
    have g1:=frozen_of_row w9 (w.heap.size+1) 1 _ _ RB.out
    go_wp2
    have k10:Kept (fun z=>z=w.heap.size+1) w9 ((w9.setCell ⟨w.heap.size+1,0,none⟩ (.slice none 0 0)).setCell ⟨w.heap.size+1,1,none⟩ (.slice none 0 0)):=((Kept.refl (fun z=>z=w.heap.size+1) w9).setCell (p:=⟨w.heap.size+1,0,none⟩) rfl _).setCell (p:=⟨w.heap.size+1,1,none⟩) rfl _
    have b10:((w9.setCell ⟨w.heap.size+1,0,none⟩ (.slice none 0 0)).setCell ⟨w.heap.size+1,1,none⟩ (.slice none 0 0)).heap[w.heap.size+1]? =some (.cells #[.slice none 0 0,.slice none 0 0] 70 (0,0)):=by
     have:=block_setCell (block_setCell RB.out 0 (.slice none 0 0)) 1 (.slice none 0 0)
     simpa using this
    clear s0 s1 g0 g1 r1 r2 r3
    generalize (w9.setCell ⟨w.heap.size+1,0,none⟩ (.slice none 0 0)).setCell ⟨w.heap.size+1,1,none⟩ (.slice none 0 0)=w10 at *
    have s0:w10.cell? ⟨w.heap.size+1,0,none⟩=some (.slice none 0 0):=by rw[cell_of_row w10 _ _ _ _ _ b10];rfl
    have s1:w10.cell? ⟨w.heap.size+1,1,none⟩=some (.slice none 0 0):=by rw[cell_of_row w10 _ _ _ _ _ b10];rfl
    refine bodyPost_ret (v:=.tuple #[.agg #[.slice none 0 0,.slice none 0 0],.bool false]) ?_ rfl ?_
    ·rw[results_cell_tmp rfl]
     go_simp
    ·have hbel:Below w.heap.size w w9:=bt Y1.out FI9.out.bel (Nat.le_refl _)
     exact⟨none,0,0,none,0,0,false,rfl,hbel.trans (k10.below hbel.size (fun z hz=>by omega)),(fun h=>by cases h),fun _=>⟨Y5,FI9.out.lp.inv,by rw[HY5.out];exact hgt⟩⟩
   ·have hgt':¬most<(y5:Int)-2:=by omega
    go_wp2
    go_roundw
    case rel=>exact⟨k+1,by omega,by go_num,FR++[x],_,Y5,K5,P5,Q5,FI9,hide (by rw[List.length_append,List.length_singleton,FN.out])⟩
    case measure=>simp[RowKit.intOf];omega
  ·have hlk':¬(k:Int)<(n0:Int):=by omega
   obtain rfl:k=n0:=by omega
   obtain⟨wE,hwE⟩:∃wE,wE=wr:=⟨_,rfl⟩
   subst hwE
   have hk2:2≤k:=by rw[HN0.out.1];exact HB.out.wf.two
   obtain⟨gf,cf,hfv,rf⟩:=FI.out.layer (by rw[FN.out];omega) (by rw[FN.out];exact HN0.out.2)
   rw[FN.out] at hfv
   subst hfv
   have hm0X:0<X.length:=by rw[HM0.out];exact h0
   have TBL:∀i,i<X.length→∃x:LA,TbL wE (a.tb i) (Y.getD i (0,[])) x:=fun i hi=>by
    have hYl:i<Y.length:=by rw[FI.out.lf.yl];exact hi
    have hyd:Y.drop i=Y.getD i (0,[])::Y.drop (i+1):=by
     rw[drop_cons hYl,List.getD_eq_getElem?_getD,List.getElem?_eq_getElem hYl];rfl
    have h1:=HB.out.ywid FI.out.lp.inv i
    have h2:=(FI.out.lp.inv.wf.drop i).two
    rw[hyd] at h1 h2
    have h1':(Y.getD i (0,[])).2.length≤M*(szL S b.lv).toNat+2:=h1
    have h2':2≤(Y.getD i (0,[])).2.length:=h2
    have h3:=HM.out
    rw[Nat.succ_mul] at h3
    obtain⟨x,hx⟩:=(FI.out.lf.tab i hi).layer (by omega) (by omega) (Y.getD i (0,[])).1
    exact⟨x,hx⟩
   obtain⟨Ms,hMl,hMs⟩:=list_of X.length TBL
   have HMS:=hide hMs
   have HML:=hide hMl
   have RF:=hide rf
   clear TBL hMs hMl rf
   have CL:=hide (fun(W:World) (x:Below wE.heap.size wE W)=>cloneL_any lb lc (A++(X++b::T)) W (by rw[HN.out];exact h12) (by rw[HN.out];omega) (HD.out.below ((bt (bt Y1.out FI.out.bel (Nat.le_refl _)) x (Nat.le_refl _)).mono hBw)).lay (Nat.le_trans hBw (Nat.le_trans (bt Y1.out FI.out.bel (Nat.le_refl _)).size x.size)))
   rw[HN.out] at CL
   have DW:Hid (∀W,Below wE.heap.size wE W→W.cell? ⟨w.heap.size,0,none⟩=some (.slice ra R.length rc)∧W.cell? ⟨w.heap.size,1,none⟩=some (.slice (some ⟨lb,0,none⟩) n lc)):=fun W x=>by
    have:=DF.out W (bt FI.out.bel x (Nat.le_refl _))
    exact⟨this.2,this.1⟩
   go_upto_region 12 with fail
   go_cut [13] (fun v13 wx=>∃ob2 g2 c2,v13=.pointer (some ⟨ob2,0,none⟩)∧Hid (wx.heap[ob2]? =some (.cells #[.slice ra R.length rc,.slice (some ⟨g2,0,none⟩) n c2] 70 (0,0)))∧Hid (wx.ownsRow wE.heap.size 105 2 (.slice (some ⟨g2,0,none⟩) n c2) n (laC (A++(X++b::T))))∧Hid (Below wE.heap.size wE wx)∧Hid (wE.heap.size≤ob2))
   case first=>
    have XD:Hid (Below wE.heap.size wE wE.drew):=(Below.refl _ wE).drew
    refine wp_unt (S:=fun V=>V.cell? ⟨w.heap.size,0,none⟩=some (.slice ra R.length rc)∧V.cell? ⟨w.heap.size,1,none⟩=some (.slice (some ⟨lb,0,none⟩) n lc)) 7 (by kernel_rfl) ?_
    generalize wE.drew=wd at *
    have HS0:=hide (DW.out wd XD.out)
    refine UntH.tk 0 rfl 68 HS0.out (fun w' ⟨q0,q1⟩=>by go_simp;first|done|rfl) ?_
    refine UntH.tk 1 rfl 69 HS0.out (fun w' ⟨q0,q1⟩=>by go_simp;first|done|rfl) ?_
    refine UntH.tk 2 rfl 70 HS0.out (fun w' ⟨q0,q1⟩=>by go_simp;first|done|rfl) ?_
    refine UntH.tk 3 rfl 71 HS0.out (fun w' ⟨q0,q1⟩=>by go_simp;first|done|rfl) ?_
    try simp only[Act.put,List.setIfInBounds_toArray,List.set_cons_zero,List.set_cons_succ]
    refine UntH.two (i:=4) (j:=6) (by kernel_rfl) rfl rfl (fun K hK=>?_) (fun K hK=>?_)
    ·go_simp
     refine(CL.out wd XD.out).mono ?_
     rintro en w5 ⟨⟨g5,c5,rfl,o5⟩,x5⟩
     have O5:=hide o5
     have X5:=hide (bt XD.out x5 (Nat.le_refl _))
     have HS5:=hide (DW.out w5 X5.out)
     refine hK _ _ HS5.out ?_
     clear hK K o5
     try simp only[Act.put,List.setIfInBounds_toArray,List.set_cons_zero,List.set_cons_succ]
     refine UntH.tk 5 rfl 73 HS5.out (fun w' ⟨q0,q1⟩=>by go_simp;first|done|rfl) ?_
     try simp only[Act.put,List.setIfInBounds_toArray,List.set_cons_zero,List.set_cons_succ]
     have y6:Below w5.heap.size w5 (w5.alloc (.cells #[.slice none 0 0,.slice none 0 0] 70)):=al (Below.refl _ _) _
     have X6:=hide (bt X5.out y6 (Nat.le_refl _))
     have O6:=hide (own_below O5.out y6)
     have HS6:=hide (DW.out _ X6.out)
     have B6:Hid ((w5.alloc (.cells #[.slice none 0 0,.slice none 0 0] 70)).heap[w5.heap.size]? =some (.cells #[.slice none 0 0,.slice none 0 0] 70 (0,0))):=heap_alloc_new w5 _
     refine UntH.step (i:=6) (by kernel_rfl) rfl (fun K hK=>?_)
     go_simp
     refine hK _ _ HS6.out ?_
     clear hK K y6
     try simp only[Act.put,List.setIfInBounds_toArray,List.set_cons_zero,List.set_cons_succ]
     generalize w5.alloc (.cells #[.slice none 0 0,.slice none 0 0] 70)=w6 at *
     have SZ:Hid (wE.heap.size≤w5.heap.size):=X5.out.size
     generalize w5.heap.size=ob2 at *
     have s0:w6.cell? ⟨ob2,0,none⟩=some (.slice none 0 0):=by rw[cell_of_row w6 _ _ _ _ _ B6.out];rfl
     have s1:w6.cell? ⟨ob2,1,none⟩=some (.slice none 0 0):=by rw[cell_of_row w6 _ _ _ _ _ B6.out];rfl
     have g0:=frozen_of_row w6 ob2 0 _ _ B6.out
     have g1:=frozen_of_row w6 ob2 1 _ _ B6.out
     refine UntH.last (by kernel_rfl) rfl (by kernel_rfl) (by kernel_rfl) (fun K hK=>?_)
     go_simp
     refine hK _ _ ?_
     clear hK K s0 s1 g0 g1
     go_wp2
     go_meet
     have k7:Kept (fun z=>z=ob2) w6 ((w6.setCell ⟨ob2,0,none⟩ (.slice ra R.length rc)).setCell ⟨ob2,1,none⟩ (.slice (some ⟨g5,0,none⟩) n c5)):=((Kept.refl (fun z=>z=ob2) w6).setCell (p:=⟨ob2,0,none⟩) rfl _).setCell (p:=⟨ob2,1,none⟩) rfl _
     refine⟨ob2,g5,c5,rfl,?_,hide (own_mono (own_kept O6.out k7 (fun z hz e=>?_)) XD.out.size),hide (X6.out.trans (k7.below X6.out.size (fun z hz=>by rw[hz];exact SZ.out))),SZ⟩
     ·have:=block_setCell (block_setCell B6.out 0 (.slice ra R.length rc)) 1 (.slice (some ⟨g5,0,none⟩) n c5)
      simpa [Hid] using this
     ·obtain⟨cs',h5⟩:=own_ty O6.out _ hz
      exact ty_ne h5 B6.out (by decide) e
    ·have y5:Below wd.heap.size wd (wd.alloc (.cells #[.slice none 0 0,.slice none 0 0] 70)):=al (Below.refl _ _) _
     have X5:=hide (bt XD.out y5 (Nat.le_refl _))
     have HS5:=hide (DW.out _ X5.out)
     have B5:Hid ((wd.alloc (.cells #[.slice none 0 0,.slice none 0 0] 70)).heap[wd.heap.size]? =some (.cells #[.slice none 0 0,.slice none 0 0] 70 (0,0))):=heap_alloc_new wd _
     go_simp
     refine hK _ _ HS5.out ?_
     clear hK K y5
     try simp only[Act.put,List.setIfInBounds_toArray,List.set_cons_zero,List.set_cons_succ]
     generalize wd.alloc (.cells #[.slice none 0 0,.slice none 0 0] 70)=w5 at *
     have SZ:Hid (wE.heap.size≤wd.heap.size):=XD.out.size
     generalize wd.heap.size=ob2 at *
     refine UntH.step (i:=4) (by kernel_rfl) rfl (fun K hK=>?_)
     go_simp
     refine(CL.out w5 X5.out).mono ?_
     rintro en w6 ⟨⟨g5,c5,rfl,o6⟩,x6⟩
     have O6:=hide o6
     have X6:=hide (bt X5.out x6 (Nat.le_refl _))
     have HS6:=hide (DW.out w6 X6.out)
     have B6:Hid (w6.heap[ob2]? =some (.cells #[.slice none 0 0,.slice none 0 0] 70 (0,0))):=(x6.block ob2 (lt_of_block B5.out)).trans B5.out
     refine hK _ _ HS6.out ?_
     clear hK K o6 x6
     try simp only[Act.put,List.setIfInBounds_toArray,List.set_cons_zero,List.set_cons_succ]
     refine UntH.tk 5 rfl 73 HS6.out (fun w' ⟨q0,q1⟩=>by go_simp;first|done|rfl) ?_
     try simp only[Act.put,List.setIfInBounds_toArray,List.set_cons_zero,List.set_cons_succ]
     have s0:w6.cell? ⟨ob2,0,none⟩=some (.slice none 0 0):=by rw[cell_of_row w6 _ _ _ _ _ B6.out];rfl
     have s1:w6.cell? ⟨ob2,1,none⟩=some (.slice none 0 0):=by rw[cell_of_row w6 _ _ _ _ _ B6.out];rfl
     have g0:=frozen_of_row w6 ob2 0 _ _ B6.out
     have g1:=frozen_of_row w6 ob2 1 _ _ B6.out
     refine UntH.last (by kernel_rfl) rfl (by kernel_rfl) (by kernel_rfl) (fun K hK=>?_)
     go_simp
     refine hK _ _ ?_
     clear hK K s0 s1 g0 g1
     go_wp2
     go_meet
     have k7:Kept (fun z=>z=ob2) w6 ((w6.setCell ⟨ob2,0,none⟩ (.slice ra R.length rc)).setCell ⟨ob2,1,none⟩ (.slice (some ⟨g5,0,none⟩) n c5)):=((Kept.refl (fun z=>z=ob2) w6).setCell (p:=⟨ob2,0,none⟩) rfl _).setCell (p:=⟨ob2,1,none⟩) rfl _
     refine⟨ob2,g5,c5,rfl,?_,hide (own_mono (own_kept O6.out k7 (fun z hz e=>?_)) X5.out.size),hide (X6.out.trans (k7.below X6.out.size (fun z hz=>by rw[hz];exact SZ.out))),SZ⟩
     ·have:=block_setCell (block_setCell B6.out 0 (.slice ra R.length rc)) 1 (.slice (some ⟨g5,0,none⟩) n c5)
      simpa [Hid] using this
     ·obtain⟨cs',h5⟩:=own_ty O6.out _ hz
      exact ty_ne h5 B6.out (by decide) e
   obtain⟨ob2,g2,c2,rfl,BO,OO,XO,LO⟩:=hcut
   clear CL DW
   have FIC:=hide (FI.out.below XO.out)
   have HMSC:Hid (∀i (h:i<Ms.length),TbL wc (a.tb i) (Y.getD i (0,[])) Ms[i]):=fun i hi=>(HMS.out i hi).below XO.out
   have G2:Hid (wE.heap.size≤g2∧g2<wc.heap.size):=World.ownsRow.lt OO.out g2 rfl
   obtain⟨q1,q0⟩:=FIC.out.cell
   have q2:wc.cell? ⟨ob2,1,none⟩=some (.slice (some ⟨g2,0,none⟩) n c2):=by rw[cell_of_row wc _ _ _ _ _ BO.out];rfl
   have hx0t:(A++(X++b::T))=A++x0::(X++b::T).drop 1:=by
    have hx:=HX0.out
    cases hX:X with
    |nil=>rw[hX] at hx;simp at hx
    |cons x X'=>
     rw[hX] at hx
     simp at hx
     subst hx
     rfl
   have LCL:=laC_length (A++(X++b::T))
   rw[HN.out] at LCL
   obtain⟨v0,hv0⟩:∃v0,wc.cell? ⟨g2,t0*2,none⟩=some v0:=⟨_,(World.ownsRow.cellAt OO.out (t0*2) (by omega)).trans (List.getElem?_eq_getElem (by omega))⟩
   obtain⟨v1,hv1⟩:∃v1,wc.cell? ⟨g2,t0*2+1,none⟩=some v1:=⟨_,(World.ownsRow.cellAt OO.out (t0*2+1) (by omega)).trans (List.getElem?_eq_getElem (by omega))⟩
   have fz0:=World.ownsRow.frozenAt OO.out (t0*2)
   have fz1:=World.ownsRow.frozenAt OO.out (t0*2+1)
   clear LCL
   have O13:Hid (((wc.setCell ⟨g2,t0*2,none⟩ (.int .i64 b.lv)).setCell ⟨g2,t0*2+1,none⟩ (.slice (some ⟨gf,0,none⟩) k cf)).ownsRow wE.heap.size 105 2 (.slice (some ⟨g2,0,none⟩) n c2) n (laC (A++(⟨b.lv,gf,cf,FR⟩:LA)::(Ms.take 0++(X++b::T).drop (0+1))))):=by
    have:=own_stored (own_stored OO.out (t0*2) (.int .i64 b.lv)) (t0*2+1) (.slice (some ⟨gf,0,none⟩) k cf)
    have e:=laC_set A x0 ⟨b.lv,gf,cf,FR⟩ ((X++b::T).drop 1)
    rw[HT0.out] at e
    simp only[FN.out] at e
    rw[hx0t,e] at this
    rw[List.take_zero,List.nil_append]
    exact this
   have K13:Hid (Kept (fun z=>z=g2) wc ((wc.setCell ⟨g2,t0*2,none⟩ (.int .i64 b.lv)).setCell ⟨g2,t0*2+1,none⟩ (.slice (some ⟨gf,0,none⟩) k cf))):=((Kept.refl (fun z=>z=g2) wc).setCell (p:=⟨g2,t0*2,none⟩) rfl _).setCell (p:=⟨g2,t0*2+1,none⟩) rfl _
   clear hx0t
   go_upto_region 14 with fail
   clear q0 q1 q2 hv0 hv1 fz0 fz1
   generalize (wc.setCell ⟨g2,t0*2,none⟩ (.int .i64 b.lv)).setCell ⟨g2,t0*2+1,none⟩ (.slice (some ⟨gf,0,none⟩) k cf)=w13 at *
   have r1:=FIC.out.lf.cells.2.2
   rw[HA1.out,HM0.out] at r1
   have lll:a.l<wE.heap.size:=lt_of_block FI.out.lf.blk
   rw[HA1.out] at lll
   have LLL:=hide lll
   have r1':=(K13.out.cell (p:=⟨l,2,none⟩) (by have:=G2.out;show l<_;omega) (fun e=>by have:=G2.out;simp only at e;omega)).trans r1
   clear r1 lll
   go_wp2
   clear r1'
   go_loopw [84] (fun v wx=>∃i:Nat,i≤m0∧v=.int .i64 (i:Int)∧Hid (wx.ownsRow wE.heap.size 105 2 (.slice (some ⟨g2,0,none⟩) n c2) n (laC (A++(⟨b.lv,gf,cf,FR⟩:LA)::(Ms.take i++(X++b::T).drop (i+1)))))∧Hid (Kept (fun z=>z=g2) wc wx)) (fun v _=>m0-(RowKit.intOf v).toNat)
   case atStart=>exact⟨0,Nat.zero_le _,rfl,O13,K13⟩
   case round=>
    obtain⟨i,hi,rfl,OI,KI⟩:=hrel
    clear O13 K13
    have g2b:=G2.out
    by_cases hlt:i<m0
    ·have hlt':(i:Int)<(m0:Int):=by omega
     have hiX:i<X.length:=by rw[HM0.out];exact hlt
     have hiM:i<Ms.length:=by rw[HML.out];exact hiX
     obtain⟨ds,m1,m2⟩:=FI.out.lf.mad
     have d1:=(KI.out.cell (p:=⟨a.mb,i,none⟩) (by have:=lt_of_block m1;show a.mb<_;omega) (fun e=>by have:=lt_of_block m1;simp only at e;omega)).trans (FIC.out.lf.kncell hiX).2
     clear m1 m2
     go_upto_region 17 with fail
     clear d1
     have KID:Hid (Kept (fun z=>z=g2) wc wr.drew):=KI.out.drew
     have OID:=hide (own_below OI.out (Below.refl _ wr).drew)
     refine wp_unt (S:=fun V=>V=wr.drew) 20 (by kernel_rfl) ?_
     clear KI OI
     generalize wr.drew=wd at *
     have KC:Hid (∀(bq o:Nat) (u:Value),wc.cell? ⟨bq,o,none⟩=some u→bq<wE.heap.size→wd.cell? ⟨bq,o,none⟩=some u):=fun bq o u hu hb=>(KID.out.cell (p:=⟨bq,o,none⟩) (by show bq<_;omega) (fun e=>by simp only at e;omega)).trans hu
     have BO2:Hid (wd.heap[ob2]? =some (.cells #[.slice ra R.length rc,.slice (some ⟨g2,0,none⟩) n c2] 70 (0,0))):=(KID.out.block ob2 (lt_of_block BO.out) (fun e=>by
      obtain⟨cs',h5⟩:=own_ty OO.out g2 rfl
      exact ty_ne BO.out h5 (by decide) e)).trans BO.out
     have c0:=FIC.out.lf.cells.1
     rw[HA1.out] at c0
     have hxi:(X++[b])[i]? =some X[i]:=by rw[List.getElem?_append_left hiX,List.getElem?_eq_getElem hiX]
     have c2':=(FIC.out.lf.oldcell hxi).2.1
     have c3:=(HMSC.out i hiM).cell
     have hlv:(Ms[i]).lv=(X[i]).lv:=by
      have h1:=congrArg Prod.fst (HMSC.out i hiM).lay
      have h2:=congrArg (fun l=>l[i]?) FI.out.lp.inv.lv
      simp only[List.getElem?_map,List.getElem?_eq_getElem hiX,List.getElem?_eq_getElem (show i<Y.length by rw[FI.out.lf.yl];exact hiX),Option.map_some,Option.some.injEq] at h2
      rw[List.getD_eq_getElem?_getD,List.getElem?_eq_getElem (show i<Y.length by rw[FI.out.lf.yl];exact hiX)] at h1
      exact h1.trans h2
     rw[←hlv] at c2'
     have HLV:=hide hlv
     clear hlv
     have d0:=KC.out _ _ _ c0 LLL.out
     have d2:=KC.out _ _ _ c2' (by have:=FI.out.lf.old.lt;have:=FI.out.lf.hB;omega)
     have d3:=KC.out _ _ _ c3 (World.block_lt_of_cell? _ _ (HMS.out i hiM).cell)
     have d4:wd.cell? ⟨ob2,1,none⟩=some (.slice (some ⟨g2,0,none⟩) n c2):=by rw[cell_of_row wd _ _ _ _ _ BO2.out];rfl
     clear c0 c2' c3 hxi
     rw[HM0.out] at d0
     have LC2:=laC_length (A++(⟨b.lv,gf,cf,FR⟩:LA)::(Ms.take i++(X++b::T).drop (i+1)))
     have hLn:(A++(⟨b.lv,gf,cf,FR⟩:LA)::(Ms.take i++(X++b::T).drop (i+1))).length=n:=by
      have h1:=HLEN.out
      have h2:=HN.out
      rw[HT0.out,HM0.out] at h1
      simp only[List.length_append,List.length_cons,List.length_take,List.length_drop,HT0.out,HML.out,HM0.out]
      omega
     rw[hLn] at LC2
     obtain⟨p0,hp0⟩:∃p0,t0+1+i=p0:=⟨_,rfl⟩
     have hbnd:p0*2+1<n*2:=by omega
     obtain⟨v0,hv0⟩:∃v0,wd.cell? ⟨g2,p0*2,none⟩=some v0:=⟨_,(World.ownsRow.cellAt OID.out (p0*2) (by omega)).trans (List.getElem?_eq_getElem (by omega))⟩
     obtain⟨v1,hv1⟩:∃v1,wd.cell? ⟨g2,p0*2+1,none⟩=some v1:=⟨_,(World.ownsRow.cellAt OID.out (p0*2+1) (by omega)).trans (List.getElem?_eq_getElem (by omega))⟩
     have fz0:=World.ownsRow.frozenAt OID.out (p0*2)
     have fz1:=World.ownsRow.frozenAt OID.out (p0*2+1)
     have O14:Hid (((wd.setCell ⟨g2,p0*2,none⟩ (.int .i64 (Ms[i]).lv)).setCell ⟨g2,p0*2+1,none⟩ (.slice (some ⟨(Ms[i]).rb,0,none⟩) (Ms[i]).Rs.length (Ms[i]).rc)).ownsRow wE.heap.size 105 2 (.slice (some ⟨g2,0,none⟩) n c2) n (laC (A++(⟨b.lv,gf,cf,FR⟩:LA)::(Ms.take (i+1)++(X++b::T).drop (i+1+1))))):=by
      have:=own_stored (own_stored OID.out (p0*2) (.int .i64 (Ms[i]).lv)) (p0*2+1) (.slice (some ⟨(Ms[i]).rb,0,none⟩) (Ms[i]).Rs.length (Ms[i]).rc)
      have hd:i+1<(X++b::T).length:=by simp;omega
      have e:=laC_set (A++(⟨b.lv,gf,cf,FR⟩:LA)::Ms.take i) (X++b::T)[i+1] Ms[i] ((X++b::T).drop (i+1+1))
      have el:(A++(⟨b.lv,gf,cf,FR⟩:LA)::Ms.take i).length=p0:=by simp[HT0.out,Nat.min_eq_left (Nat.le_of_lt hiM)];omega
      rw[el] at e
      have e1:A++(⟨b.lv,gf,cf,FR⟩:LA)::(Ms.take i++(X++b::T).drop (i+1))=(A++(⟨b.lv,gf,cf,FR⟩:LA)::Ms.take i)++(X++b::T)[i+1]::(X++b::T).drop (i+1+1):=by
       rw[drop_cons hd];simp
      have e2:A++(⟨b.lv,gf,cf,FR⟩:LA)::(Ms.take (i+1)++(X++b::T).drop (i+1+1))=(A++(⟨b.lv,gf,cf,FR⟩:LA)::Ms.take i)++Ms[i]::(X++b::T).drop (i+1+1):=by
       rw[List.take_succ_eq_append_getElem hiM];simp only[List.append_assoc,List.cons_append,List.nil_append]
      rw[e1,e] at this
      rw[e2]
      exact this
     have K14:Hid (Kept (fun z=>z=g2) wc ((wd.setCell ⟨g2,p0*2,none⟩ (.int .i64 (Ms[i]).lv)).setCell ⟨g2,p0*2+1,none⟩ (.slice (some ⟨(Ms[i]).rb,0,none⟩) (Ms[i]).Rs.length (Ms[i]).rc))):=(KID.out.setCell (p:=⟨g2,p0*2,none⟩) rfl _).setCell (p:=⟨g2,p0*2+1,none⟩) rfl _
     have w1e:IntKind.i64.wrap ((t0:Int)+1)=(t0:Int)+1:=by simp[IntKind.wrap,IntKind.bits,IntKind.signed];omega
     have w2e:IntKind.i64.wrap ((t0:Int)+1+(i:Int))=(p0:Int):=by simp[IntKind.wrap,IntKind.bits,IntKind.signed];omega
     have hidx:(p0:Int)<(n:Int):=by omega
     have HP0:=hide hp0
     have hio:(i:Int)<(m0:Int)+1:=by omega
     generalize (Ms[i]).lv=ml at *
     generalize (Ms[i]).rb=mr at *
     generalize (Ms[i]).rc=mrc at *
     generalize (Ms[i]).Rs.length=mn at *
     clear LC2 hLn hbnd hp0
     refine UntH.tk 0 rfl 89 rfl (fun w' hw'=>by subst hw';go_simp;first|done|rfl) ?_
     refine UntH.tk 1 rfl 90 rfl (fun w' hw'=>by subst hw';go_simp;first|done|rfl) ?_
     refine UntH.tk 2 rfl 91 rfl (fun w' hw'=>by subst hw';go_simp;first|done|rfl) ?_
     refine UntH.tk 3 rfl 92 rfl (fun w' hw'=>by subst hw';go_simp;first|done|rfl) ?_
     refine UntH.tk 4 rfl 93 rfl (fun w' hw'=>by subst hw';go_simp;first|done|rfl) ?_
     refine UntH.tk 5 rfl 94 rfl (fun w' hw'=>by subst hw';go_simp;first|done|rfl) ?_
     refine UntH.tk 6 rfl 95 rfl (fun w' hw'=>by subst hw';go_simp;first|done|rfl) ?_
     refine UntH.tk 7 rfl 96 rfl (fun w' hw'=>by subst hw';go_simp;first|done|rfl) ?_
     refine UntH.tk 8 rfl 97 rfl (fun w' hw'=>by subst hw';go_simp;first|done|rfl) ?_
     refine UntH.tk 9 rfl 98 rfl (fun w' hw'=>by subst hw';go_simp;first|done|rfl) ?_
     refine UntH.tk 10 rfl 99 rfl (fun w' hw'=>by subst hw';go_simp;first|done|rfl) ?_
     refine UntH.tk 11 rfl 100 rfl (fun w' hw'=>by subst hw';go_simp;first|done|rfl) ?_
     refine UntH.tk 12 rfl 101 rfl (fun w' hw'=>by subst hw';go_simp;first|done|rfl) ?_
     refine UntH.tk 13 rfl 102 rfl (fun w' hw'=>by subst hw';go_simp;first|done|rfl) ?_
     refine UntH.tk 14 rfl 103 rfl (fun w' hw'=>by subst hw';go_simp;first|done|rfl) ?_
     refine UntH.tk 15 rfl 104 rfl (fun w' hw'=>by subst hw';go_simp;first|done|rfl) ?_
     refine UntH.tk 16 rfl 105 rfl (fun w' hw'=>by subst hw';go_simp;first|done|rfl) ?_
     refine UntH.tk 17 rfl 106 rfl (fun w' hw'=>by subst hw';go_simp;first|done|rfl) ?_
     refine UntH.tk 18 rfl 107 rfl (fun w' hw'=>by subst hw';go_simp;first|done|rfl) ?_
     refine UntH.tk 19 rfl 108 rfl (fun w' hw'=>by subst hw';go_simp;first|done|rfl) ?_
     try simp only[Act.put,List.setIfInBounds_toArray,List.set_cons_zero,List.set_cons_succ]
     refine UntH.last (by kernel_rfl) rfl (by kernel_rfl) (by kernel_rfl) (fun K hK=>?_)
     go_simp
     refine hK _ _ ?_
     clear hK K d0 d2 d3 d4 hv0 hv1 fz0 fz1
     generalize (wd.setCell ⟨g2,p0*2,none⟩ (.int .i64 ml)).setCell ⟨g2,p0*2+1,none⟩ (.slice (some ⟨mr,0,none⟩) mn mrc)=w14 at *
     go_wp2
     go_roundw
     case rel=>exact⟨i+1,by omega,by go_num,O14,K14⟩
     case measure=>simp[RowKit.intOf];omega
    ·have hlt':¬(i:Int)<(m0:Int):=by omega
     obtain rfl:i=m0:=by omega
     have BO2:Hid (wr.heap[ob2]? =some (.cells #[.slice ra R.length rc,.slice (some ⟨g2,0,none⟩) n c2] 70 (0,0))):=(KI.out.block ob2 (lt_of_block BO.out) (fun e=>by
      obtain⟨cs',h5⟩:=own_ty OO.out g2 rfl
      exact ty_ne BO.out h5 (by decide) e)).trans BO.out
     have RB:Hid (wr.heap[w.heap.size+1]? =some (.cells #[.slice none 0 0,.slice none 0 0] 70 (0,0))):=by
      have h1:=FI.out.bel.size
      have h2:=S1.out
      exact(KI.out.block _ (by omega) (fun e=>by omega)).trans ((FIC.out.bel.block _ S1.out).trans R1.out)
     have o0:wr.cell? ⟨ob2,0,none⟩=some (.slice ra R.length rc):=by rw[cell_of_row wr _ _ _ _ _ BO2.out];rfl
     have o1:wr.cell? ⟨ob2,1,none⟩=some (.slice (some ⟨g2,0,none⟩) n c2):=by rw[cell_of_row wr _ _ _ _ _ BO2.out];rfl
     have s0:wr.cell? ⟨w.heap.size+1,0,none⟩=some (.slice none 0 0):=by rw[cell_of_row wr _ _ _ _ _ RB.out];rfl
     have s1:wr.cell? ⟨w.heap.size+1,1,none⟩=some (.slice none 0 0):=by rw[cell_of_row wr _ _ _ _ _ RB.out];rfl
     have g0:=frozen_of_row wr (w.heap.size+1) 0 _ _ RB.out
     have g1:=frozen_of_row wr (w.heap.size+1) 1 _ _ RB.out
     go_wp2
     have k10:Kept (fun z=>z=w.heap.size+1) wr ((wr.setCell ⟨w.heap.size+1,0,none⟩ (.slice ra R.length rc)).setCell ⟨w.heap.size+1,1,none⟩ (.slice (some ⟨g2,0,none⟩) n c2)):=((Kept.refl (fun z=>z=w.heap.size+1) wr).setCell (p:=⟨w.heap.size+1,0,none⟩) rfl _).setCell (p:=⟨w.heap.size+1,1,none⟩) rfl _
     have b10:((wr.setCell ⟨w.heap.size+1,0,none⟩ (.slice ra R.length rc)).setCell ⟨w.heap.size+1,1,none⟩ (.slice (some ⟨g2,0,none⟩) n c2)).heap[w.heap.size+1]? =some (.cells #[.slice ra R.length rc,.slice (some ⟨g2,0,none⟩) n c2] 70 (0,0)):=by
      have:=block_setCell (block_setCell RB.out 0 (.slice ra R.length rc)) 1 (.slice (some ⟨g2,0,none⟩) n c2)
      simpa using this
     clear s0 s1 g0 g1 o0 o1
     generalize (wr.setCell ⟨w.heap.size+1,0,none⟩ (.slice ra R.length rc)).setCell ⟨w.heap.size+1,1,none⟩ (.slice (some ⟨g2,0,none⟩) n c2)=w10 at *
     have s0:w10.cell? ⟨w.heap.size+1,0,none⟩=some (.slice ra R.length rc):=by rw[cell_of_row w10 _ _ _ _ _ b10];rfl
     have s1:w10.cell? ⟨w.heap.size+1,1,none⟩=some (.slice (some ⟨g2,0,none⟩) n c2):=by rw[cell_of_row w10 _ _ _ _ _ b10];rfl
     refine bodyPost_ret (v:=.tuple #[.agg #[.slice ra R.length rc,.slice (some ⟨g2,0,none⟩) n c2],.bool true]) ?_ rfl ?_
     ·rw[results_cell_tmp rfl]
      go_simp
     ·have hb1:Below w.heap.size w wE:=bt Y1.out FI.out.bel (Nat.le_refl _)
      have hb2:Below w.heap.size w wc:=bt hb1 XO.out (Nat.le_refl _)
      have hs1:=hb1.size
      have hb3:Below w.heap.size w wr:=hb2.trans (KI.out.below hb2.size (fun z hz=>by omega))
      have hb4:Below w.heap.size w w10:=hb3.trans (k10.below hb3.size (fun z hz=>by omega))
      obtain⟨gcs,hgt⟩:=own_ty OO.out g2 rfl
      have kr:∀ {x:LA},RowsB wc wc.heap.size x→RowsB w10 w10.heap.size x:=fun {x} hx=>by
       have h1:=hx.keptN KI.out (fun z hz=>by subst hz;exact⟨gcs,105,hgt,by decide,by decide⟩)
       have h2:=h1.keptN k10 (fun z hz=>by subst hz;exact⟨_,70,RB.out,by decide,by decide⟩)
       exact h2.mono (Nat.le_trans KI.out.size k10.size)
      have kd:∀ {x:LA},x∈A++(X++b::T)→RowsB w10 w10.heap.size x:=fun {x} hx=>((HD.out.lay.ly x hx).below (hb4.mono hBw)).mono (Nat.le_trans hBw hb4.size)
      have hMt:Ms.take i=Ms:=by rw[List.take_of_length_le];rw[HML.out,HM0.out];exact Nat.le_refl _
      have hTd:(X++b::T).drop (i+1)=T:=by
       rw[←HM0.out,show X++b::T=(X++[b])++T by simp]
       exact List.drop_left' (by simp)
      have OI2:=own_kept OI.out k10 (fun z hz e=>by
       have:g2=z:=Option.some.inj hz
       have:=S1.out
       have:=FI.out.bel.size
       omega)
      rw[hMt,hTd] at OI2
      have hLn:(A++(⟨b.lv,gf,cf,FR⟩:LA)::(Ms++T)).length=n:=by
       have h1:=HLEN.out
       have h2:=HN.out
       simp only[List.length_append,List.length_cons,HML.out] at h1 h2 ⊢
       omega
      have hcap:n≤c2∧c2≤maxLen:=by
       rcases OO.out.2 with⟨e,_⟩|⟨g',cap',cur,e,_,_,q1,q2,_⟩
       ·cases e
       ·injection e with _ _ e
        subst e
        exact⟨q1,q2⟩
      have hYm:layL Ms=Y:=by
       apply List.ext_getElem
       ·rw[List.length_map,HML.out,FI.out.lf.yl]
       ·intro j h1 h2
        rw[List.length_map] at h1
        rw[List.getElem_map,(HMS.out j h1).lay,List.getD_eq_getElem?_getD,List.getElem?_eq_getElem h2]
        rfl
      refine⟨ra,R.length,rc,some ⟨g2,0,none⟩,n,c2,true,rfl,hb4,fun _=>⟨rfl,rfl,rfl,HN.out.symm,g2,A++(⟨b.lv,gf,cf,FR⟩:LA)::(Ms++T),Y,rdR FR,rfl,⟨?_,LaysAt.of_own (by rw[hLn];exact OI2) hLn.symm (fun x hx=>?_),by rw[hLn];exact hcap.1,hcap.2,Nat.le_refl _⟩,?_,FI.out.lp.inv,?_,fun t ht=>?_⟩,fun h=>by cases h⟩
      ·exact(HD.out.below (hb4.mono hBw)).rts.imp id (fun⟨bq,off,e,hbq,hc⟩=>⟨bq,off,e,Nat.lt_of_lt_of_le hbq (Nat.le_trans hBw hb4.size),hc⟩)
      ·simp only[List.mem_append,List.mem_cons] at hx
       rcases hx with hx|hx|hx|hx
       ·exact kd (List.mem_append_left _ hx)
       ·subst hx;exact kr ((RF.out.below XO.out).mono XO.out.size)
       ·obtain⟨j,hj,rfl⟩:=List.getElem_of_mem hx
        exact kr (HMSC.out j hj).rows
       ·exact kd (by simp[hx])
      ·simp only[layL,List.map_append,List.map_cons]
       rw[show Ms.map LA.lay=Y from hYm]
       rfl
      ·rw[←HN0.out.1,←FN.out];simp[rdR]
      ·have ht':t<FR.length:=by simpa [rdR] using ht
       obtain⟨_,_,f,h1,h2⟩:=FI.out.frw t ht'
       exact⟨f,by simp only[rdR,List.getElem_map];exact h1,h2⟩
end
end Go.Proofs.Ytnddhkhmbjeefaa

