/-
  Rows in a row, layers in memory; newTable by its contract. Condition: rows that may be, unlike.
-/
import Derived.Test.YtnddhkhmbjeefaaC07
import Derived.Test.YtnddhkhmbjeefaaC02
namespace Go.Proofs.Ytnddhkhmbjeefaa
open Go.RowKit Go.Lib Go.Maps
def BlB (w:World) (bb n:Nat) (BL:List RD):Prop:=∃cs,w.heap[bb]? =some (.cells cs 102 (0,0))∧cs.size=n∧∀i (h:i<BL.length),cs[i]? =some (BL[i]).v
section
variable {w w':World} {bb n:Nat} {BL:List RD} {F:Nat→Prop}
theorem BlB.lt (h:BlB w bb n BL):bb<w.heap.size:=by
 obtain⟨cs,h1,_⟩:=h
 exact lt_of_block h1
theorem BlB.kept (h:BlB w bb n BL) (hk:Kept F w w') (hF:¬F bb):BlB w' bb n BL:=by
 have hl:=h.lt
 obtain⟨cs,h1,h2⟩:=h
 exact⟨cs,(hk.block bb hl hF).trans h1,h2⟩
theorem BlB.below (h:BlB w bb n BL) (x:Below w.heap.size w w'):BlB w' bb n BL:=h.kept (F:=fun _=>False) (Kept.of_below x) (fun h=>h)
theorem BlB.cell (h:BlB w bb n BL) {k:Nat} (hk:k<BL.length):w.cell? ⟨bb,k,none⟩=some (BL[k]).v:=by
 obtain⟨cs,h1,_,h2⟩:=h
 rw[cell_of_row w bb _ _ _ _ h1]
 exact h2 k hk
theorem BlB.room (h:BlB w bb n BL) {k:Nat} (hk:k<n):(∃v,w.cell? ⟨bb,k,none⟩=some v)∧w.frozen? ⟨bb,k,none⟩=false:=by
 obtain⟨cs,h1,h2,_⟩:=h
 rw[cell_of_row w bb _ _ _ _ h1]
 exact⟨⟨cs[k]'(by omega),Array.getElem?_eq_getElem (by omega)⟩,frozen_of_row w bb k _ _ h1⟩
theorem BlB.push (h:BlB w bb n BL) (x:RD) (hk:BL.length<n):BlB (w.setCell ⟨bb,BL.length,none⟩ x.v) bb n (BL++[x]):=by
 obtain⟨cs,h1,h2,h3⟩:=h
 refine⟨_,block_setCell h1 _ _,by simp[h2],fun i hi=>?_⟩
 rw[List.length_append,List.length_singleton] at hi
 by_cases e:i<BL.length
 ·rw[List.getElem_append_left e,←h3 i e]
  simp[Array.set!,Array.setIfInBounds]
  split
  ·rw[Array.getElem?_set_ne]
   omega
  ·rfl
 ·have:i=BL.length:=by omega
  subst this
  rw[List.getElem_append_right (Nat.le_refl _)]
  simp[Array.set!,Array.setIfInBounds,h2,hk]
theorem BlB.tnb (h:BlB w bb n BL):TnB w bb BL (fun _=>0):=by
 obtain⟨cs,h1,_,h3⟩:=h
 refine⟨cs,h1,fun k hk=>?_⟩
 rw[h3 k hk]
 simp[rsV,RD.v]
end
set_option maxRecDepth 100000 in
set_option maxHeartbeats 2000000 in
theorem newTable_any {w:World} {vb c:Nat} {x0 x1:RD} (hb:BlB w vb 2 [x0,x1]) (h0:RwB w x0.b x0.r) (h1:RwB w x1.b x1.r) (f0:RFit x0.r) (f1:RFit x1.r) (hne:x0.r≠x1.r):
 Calls Try.prog 74 #[.slice (some ⟨vb,0,none⟩) 2 c] w fun e w'=>∃t,e=.returned (.pointer (some ⟨t,0,none⟩))∧∃P,TbAt w' t [x0.r,x1.r] P (fun k=>w.heap.size≤k)∧(∀k,P k→w.heap.size≤k)∧Below w.heap.size w w':=by
 have HB:=hide hb
 have H0:=hide h0
 have H1:=hide h1
 have F0:=hide f0
 have F1:=hide f1
 have HNE:=hide hne
 clear hb h0 h1 f0 f1 hne
 have y1:Below w.heap.size w (w.alloc (.map #[] 0)):=al (Below.refl _ _) _
 have Y2:Hid (Below w.heap.size w ((w.alloc (.map #[] 0)).alloc (.cells #[.slice none 0 0,.map (some w.heap.size),.slice none 0 0] 112))):=al y1 _
 have hsz:(w.alloc (.map #[] 0)).heap.size=w.heap.size+1:=by simp
 have T0:Hid (TbAt ((w.alloc (.map #[] 0)).alloc (.cells #[.slice none 0 0,.map (some w.heap.size),.slice none 0 0] 112)) (w.heap.size+1) [] (fun k=>k=w.heap.size∨k=w.heap.size+1) (fun k=>w.heap.size≤k)):=by
  have yb:Below (w.alloc (.map #[] 0)).heap.size (w.alloc (.map #[] 0)) ((w.alloc (.map #[] 0)).alloc (.cells #[.slice none 0 0,.map (some w.heap.size),.slice none 0 0] 112)):=al (Below.refl _ _) _
  have bk:((w.alloc (.map #[] 0)).alloc (.cells #[.slice none 0 0,.map (some w.heap.size),.slice none 0 0] 112)).heap[w.heap.size+1]? =some (.cells #[.slice none 0 0,.map (some w.heap.size),.slice none 0 0] 112 (0,0)):=by rw[←hsz];exact heap_alloc_new _ _
  have mp:=(MpT.made 9 w).congr (yb.block _ (MpT.made 9 w).lt)
  refine⟨[],.slice none 0 0,w.heap.size,.slice none 0 0,0,[],⟨bk,World.ownsRow_nil _ _ _ _,fun x hx=>(by cases hx),mp,World.ownsRow_nil _ _ _ _,.inr rfl,fun k hk=>(by cases hk),.inl rfl,fun k hk=>(by cases hk),fun k hk=>?_,fun k hk cs e=>?_,fun x hx=>(by cases hx)⟩,rfl,fun x hx=>(by cases hx)⟩
  ·rcases hk with e|e
   ·rw[e];exact mp.lt
   ·rw[e];exact lt_of_block bk
  ·rcases hk with e1|e1
   ·subst e1
    obtain⟨es,cl,h2⟩:=mp.blk
    exact map_ne e h2 rfl
   ·subst e1
    exact ty_ne bk e (by decide) rfl
 have hmm:∀W:World,(Instr.makeMap 109 none).run Try.prog W=.ok (.map (some W.heap.size)) (W.alloc (.map #[] 0)):=fun W=>rfl
 go_enter Try.func74,Try.ntmps74
 go_wp2
 clear hmm
 generalize (w.alloc (.map #[] 0)).alloc (.cells #[.slice none 0 0,.map (some w.heap.size),.slice none 0 0] 112)=w2 at *
 go_loopw [11] (fun x wr=>∃k:Nat,k≤2∧x=.int .i64 (k:Int)∧∃P,Hid (TbAt wr (w.heap.size+1) (([x0.r,x1.r]:List (List Rn)).take k) P (fun k=>w.heap.size≤k))∧Hid (∀k,P k→w.heap.size≤k)∧Hid (Below w.heap.size w wr)) (fun x _=>2-(RowKit.intOf x).toNat)
 case atStart=>exact⟨0,by omega,rfl,_,T0,hide (fun k hk=>by omega),Y2⟩
 case round=>
  obtain⟨k,hk,rfl,P,TB,PP,HX⟩:=hrel
  clear T0 Y2
  by_cases hk2:k<2
  ·have hk':(k:Int)<2:=by omega
   obtain⟨x,hx,rx,fx,hc⟩:∃x:RD,w.cell? ⟨vb,k,none⟩=some x.v∧RwB w x.b x.r∧RFit x.r∧plc (([x0.r,x1.r]:List (List Rn)).take k) x.r=([x0.r,x1.r]:List (List Rn)).take (k+1):=by
    rcases (by omega:k=0∨k=1) with rfl|rfl
    ·exact⟨x0,HB.out.cell (k:=0) (by simp),H0.out,F0.out,by simp[plc]⟩
    ·exact⟨x1,HB.out.cell (k:=1) (by simp),H1.out,F1.out,by simp[plc];exact fun h=>HNE.out h.symm⟩
   have q1:=(HX.out.cell (p:=⟨vb,k,none⟩) HB.out.lt).trans hx
   have PL:=hide (TB.out.place (cap:=x.c) (rx.belowN HX.out rx.lt) fx (by rw[List.length_take];simp;omega))
   have HC:=hide hc
   unfold RD.v at q1
   clear hx rx fx hc
   go_wp2_with (go_at_call 84;refine PL.out.mono ?_;rintro en w5 ⟨i5,rfl,_,P5,tb5,k5,p5⟩;have TB5:=hide tb5;have K5:=hide k5;have P5':=hide p5;clear tb5 k5 p5)
   go_roundw
   case rel=>
    have hs:=HX.out.size
    refine⟨k+1,by omega,by go_num,P5,?_,hide (fun z hz=>?_),hide (HX.out.trans (K5.out.below hs PP.out))⟩
    ·have:=TB5.out
     rw[HC.out] at this
     exact this.mono (fun z hz=>hz.elim id (fun h=>Nat.le_trans hs h))
    ·rcases P5'.out z hz with h1|h1
     ·exact PP.out z h1
     ·exact Nat.le_trans hs h1
   case measure=>simp[RowKit.intOf];omega
  ·have hk':¬(k:Int)<2:=by omega
   obtain rfl:k=2:=by omega
   go_wp2
   go_ret
   exact⟨_,rfl,P,TB.out,PP.out,HX.out⟩
end Go.Proofs.Ytnddhkhmbjeefaa
namespace Go.Proofs.Ytnddhkhmbjeefaa
open Go.RowKit
def sayN (N:List Nd) (p:Nat→Nat):Nat→Int→Bool
 |0,f=>decide (f=1)
 |n+1,f=>if 2≤f then sayN N p n ((N.getD (f-2).toNat (0,[])).2.getD (p (N.getD (f-2).toNat (0,[])).1.toNat) 0) else decide (f=1)
def sayR (N:List Nd) (p:Nat→Nat) (f:Int):Bool:=sayN N p f.toNat f
def Pnt (S:List Int) (p:Nat→Nat):Prop:=∀l,l<S.length→(p l:Int)<S.getD l 0
def upd (p:Nat→Nat) (l c:Nat):Nat→Nat:=fun j=>if j=l then c else p j
theorem upd_at (p:Nat→Nat) (l c:Nat):upd p l c l=c:=by simp[upd]
theorem upd_ne (p:Nat→Nat) {l j:Nat} (c:Nat) (h:j≠l):upd p l c j=p j:=by simp[upd,h]
theorem Pnt.upd {S:List Int} {p:Nat→Nat} (h:Pnt S p) {l c:Nat} (hc:(c:Int)<S.getD l 0):Pnt S (upd p l c):=fun j hj=>by
 by_cases e:j=l
 ·subst e;rw[upd_at];exact hc
 ·rw[upd_ne p c e];exact h j hj
theorem Pnt.zero {S:List Int} (h:SzOk S):Pnt S (fun _=>0):=fun l hl=>by
 have hm:S.getD l 0∈S:=by
  rw[List.getD_eq_getElem?_getD,List.getElem?_eq_getElem hl]
  exact List.getElem_mem _
 have:=(h.each _ hm).1
 simp only[Int.natCast_zero]
 omega
section
variable {S:List Int} {M:Int} {N:List Nd} {p:Nat→Nat} {f g:Int}
structure NdAt (S:List Int) (N:List Nd) (f:Int) (l:Nat) (ks:List Int):Prop where
 at_:N[(f-2).toNat]? =some ((l:Int),ks)
 lt:l<S.length
 len:(ks.length:Int)=S.getD l 0
 one:¬One ks
 lev:lvl S N f=(l:Int)
 kid:∀c,c<ks.length→0≤ks.getD c 0∧ks.getD c 0<f∧(l:Int)<lvl S N (ks.getD c 0)
 say:∀n p,sayN N p (n+1) f=sayN N p n (ks.getD (p l) 0)
theorem Ok.ndAt (h:Ok S M N) (h2:2≤f) (hf:f<(N.length:Int)+2):∃l ks,NdAt S N f l ks:=by
 have hk:(f-2).toNat<N.length:=by omega
 obtain⟨h1,h3⟩:=h.each _ hk
 have h4:=h1.ge
 have h5:=h1.lt
 have hat:N[(f-2).toNat]? =some ((((N[(f-2).toNat]).1.toNat:Nat):Int),(N[(f-2).toNat]).2):=by
  rw[List.getElem?_eq_getElem hk,Int.toNat_of_nonneg h4]
 have hgd:N.getD (f-2).toNat (0,[])=N[(f-2).toNat]:=by rw[List.getD_eq_getElem?_getD,List.getElem?_eq_getElem hk];rfl
 refine⟨(N[(f-2).toNat]).1.toNat,(N[(f-2).toNat]).2,hat,by omega,h1.len,h3,?_,fun c hc=>?_,fun n p=>?_⟩
 ·unfold lvl
  rw[if_pos ⟨h2,hf⟩,hgd,Int.toNat_of_nonneg h4]
 ·have hmem:(N[(f-2).toNat]).2.getD c 0∈(N[(f-2).toNat]).2:=by
   rw[List.getD_eq_getElem?_getD,List.getElem?_eq_getElem hc]
   exact List.getElem_mem _
  obtain⟨h6,h7⟩:=h1.kid _ hmem
  rw[lvl_take h6] at h7
  unfold hasR at h6
  rw[List.length_take] at h6
  exact⟨h6.1,by omega,by omega⟩
 ·rw[sayN,if_pos h2,hgd]
theorem NdAt.cls {l:Nat} {ks:List Int} (h:NdAt S N f l ks) (hp:Pnt S p):p l<ks.length:=by
 have:=hp l h.lt
 have:=h.len
 omega
theorem sayN_low (n:Nat) (h:¬2≤f):sayN N p n f=decide (f=1):=by
 cases n with
 |zero=>rfl
 |succ n=>rw[sayN,if_neg h]
theorem sayN_eq (h:Ok S M N) (hp:Pnt S p):∀(k:Nat) (f:Int) (n m:Nat),f.toNat≤k→0≤f→f<(N.length:Int)+2→f.toNat≤n→f.toNat≤m→sayN N p n f=sayN N p m f:=by
 intro k
 induction k with
 |zero=>intro f n m h1 h2 _ _ _;rw[sayN_low n (by omega),sayN_low m (by omega)]
 |succ k ih=>
  intro f n m h1 h2 h3 h4 h5
  by_cases hf:2≤f
  ·obtain⟨l,ks,hn⟩:=h.ndAt hf h3
   obtain⟨k0,k1,_⟩:=hn.kid (p l) (hn.cls hp)
   rw[show n=(n-1)+1 by omega,show m=(m-1)+1 by omega,hn.say,hn.say]
   exact ih _ _ _ (by omega) k0 (by omega) (by omega) (by omega)
  ·rw[sayN_low n hf,sayN_low m hf]
theorem NdAt.says {l:Nat} {ks:List Int} (hn:NdAt S N f l ks) (h:Ok S M N) (hp:Pnt S p) (h2:2≤f) (hf:f<(N.length:Int)+2):sayR N p f=sayR N p (ks.getD (p l) 0):=by
 obtain⟨k0,k1,_⟩:=hn.kid (p l) (hn.cls hp)
 unfold sayR
 rw[show f.toNat=(f.toNat-1)+1 by omega,hn.say]
 exact sayN_eq h hp _ _ _ _ (Nat.le_refl _) k0 (by omega) (by omega) (Nat.le_refl _)
theorem sayR_low (h:¬2≤f):sayR N p f=decide (f=1):=sayN_low _ h
theorem sayR_upd (h:Ok S M N) (hp:Pnt S p) {l c:Nat} (hc:(c:Int)<S.getD l 0):∀(k:Nat) (f:Int),f.toNat≤k→0≤f→f<(N.length:Int)+2→(l:Int)<lvl S N f→sayR N (upd p l c) f=sayR N p f:=by
 intro k
 induction k with
 |zero=>intro f h1 h2 _ _;rw[sayR_low (by omega),sayR_low (by omega)]
 |succ k ih=>
  intro f h1 h2 h3 h4
  by_cases hf:2≤f
  ·obtain⟨l',ks,hn⟩:=h.ndAt hf h3
   have hl:=hn.lev
   rw[hn.says h (hp.upd hc) hf h3,hn.says h hp hf h3,upd_ne p c (by omega)]
   obtain⟨k0,k1,k2⟩:=hn.kid (p l') (hn.cls hp)
   exact ih _ (by omega) k0 (by omega) (by omega)
  ·rw[sayR_low hf,sayR_low hf]
theorem NdAt.kid_says {l:Nat} {ks:List Int} (hn:NdAt S N f l ks) (h:Ok S M N) (hp:Pnt S p) (h2:2≤f) (hf:f<(N.length:Int)+2) {c:Nat} (hc:c<ks.length):sayR N p (ks.getD c 0)=sayR N (upd p l c) f:=by
 have hc':(c:Int)<S.getD l 0:=by have:=hn.len;omega
 obtain⟨k0,k1,k2⟩:=hn.kid c hc
 rw[hn.says h (hp.upd hc') h2 hf,upd_at]
 exact(sayR_upd h hp hc' _ _ (Nat.le_refl _) k0 (by omega) k2).symm
theorem One.of_all {ks:List Int} {z:Int} (h0:0<ks.length) (h:∀c,c<ks.length→ks.getD c 0=z):One ks:=fun x hx=>by
 obtain⟨c,hc,rfl⟩:=List.getElem_of_mem hx
 have h1:=h c hc
 rw[List.getD_eq_getElem?_getD,List.getElem?_eq_getElem hc] at h1
 rw[h 0 h0]
 exact h1
theorem NdAt.pos {l:Nat} {ks:List Int} (hn:NdAt S N f l ks) (h:Ok S M N):0<ks.length:=by
 have:=hn.cls (Pnt.zero h.sz)
 omega
theorem can_above (h:Ok S M N) (h2:2≤f) (hf:f<(N.length:Int)+2) (g0:0≤g) (hg:g<(N.length:Int)+2) (hl:lvl S N f<lvl S N g) (hs:∀p,Pnt S p→sayR N p f=sayR N p g)
 (ih:∀f',0≤f'→f'<f→(∀p,Pnt S p→sayR N p f'=sayR N p g)→f'=g):False:=by
 obtain⟨l,ks,hn⟩:=h.ndAt h2 hf
 have hlev:=hn.lev
 refine hn.one (One.of_all (z:=g) (hn.pos h) (fun c hc=>?_))
 obtain⟨k0,k1,k2⟩:=hn.kid c hc
 refine ih _ k0 k1 (fun p hp=>?_)
 have hc':(c:Int)<S.getD l 0:=by have:=hn.len;omega
 rw[hn.kid_says h hp h2 hf hc,hs _ (hp.upd hc')]
 exact sayR_upd h hp hc' _ _ (Nat.le_refl _) g0 hg (by omega)
theorem lvl_low (h:¬2≤f):lvl S N f=(S.length:Int):=by
 unfold lvl
 rw[if_neg (fun h'=>h h'.1)]
theorem canon (h:Ok S M N):∀(k:Nat) (f g:Int),f.toNat+g.toNat≤k→0≤f→f<(N.length:Int)+2→0≤g→g<(N.length:Int)+2→(∀p,Pnt S p→sayR N p f=sayR N p g)→f=g:=by
 intro k
 induction k with
 |zero=>intro f g h1 f0 _ g0 _ _;omega
 |succ k ih=>
  intro f g h1 f0 hf g0 hg hs
  by_cases f2:2≤f
  ·by_cases g2:2≤g
   ·obtain⟨l,ks,hn⟩:=h.ndAt f2 hf
    obtain⟨l',ks',hn'⟩:=h.ndAt g2 hg
    have e1:=hn.lev
    have e2:=hn'.lev
    rcases Nat.lt_trichotomy l l' with hl|hl|hl
    ·exact(can_above h f2 hf g0 hg (by omega) hs (fun f' a b c=>ih f' g (by omega) a (by omega) g0 hg c)).elim
    ·subst hl
     have hlen:ks.length=ks'.length:=by have:=hn.len;have:=hn'.len;omega
     have hks:ks=ks':=by
      apply List.ext_getElem hlen
      intro c hc hc'
      have:ks.getD c 0=ks'.getD c 0:=by
       obtain⟨a0,a1,_⟩:=hn.kid c hc
       obtain⟨b0,b1,_⟩:=hn'.kid c hc'
       refine ih _ _ (by omega) a0 (by omega) b0 (by omega) (fun p hp=>?_)
       have hcc:(c:Int)<S.getD l 0:=by have:=hn.len;omega
       rw[hn.kid_says h hp f2 hf hc,hn'.kid_says h hp g2 hg hc',hs _ (hp.upd hcc)]
      rw[List.getD_eq_getElem?_getD,List.getD_eq_getElem?_getD,List.getElem?_eq_getElem hc,List.getElem?_eq_getElem hc'] at this
      exact this
     subst hks
     have:=nodup_at h.nod hn.at_ hn'.at_
     omega
    ·exact(can_above h g2 hg f0 hf (by omega) (fun p hp=>(hs p hp).symm) (fun f' a b c=>ih f' f (by omega) a (by omega) f0 hf c)).elim
   ·obtain⟨l,ks,hn⟩:=h.ndAt f2 hf
    have e1:=hn.lev
    have e2:lvl S N g=(S.length:Int):=lvl_low g2
    have:=hn.lt
    exact(can_above h f2 hf g0 hg (by omega) hs (fun f' a b c=>ih f' g (by omega) a (by omega) g0 hg c)).elim
  ·by_cases g2:2≤g
   ·obtain⟨l,ks,hn⟩:=h.ndAt g2 hg
    have e1:=hn.lev
    have e2:lvl S N f=(S.length:Int):=lvl_low f2
    have:=hn.lt
    exact(can_above h g2 hg f0 hf (by omega) (fun p hp=>(hs p hp).symm) (fun f' a b c=>ih f' f (by omega) a (by omega) f0 hf c)).elim
   ·have h3:=hs _ (Pnt.zero h.sz)
    rw[sayR_low f2,sayR_low g2] at h3
    have h4:f=1↔g=1:=by simpa using h3
    omega
theorem Ok.canon (h:Ok S M N) (hf:hasR N f) (hg:hasR N g) (hs:∀p,Pnt S p→sayR N p f=sayR N p g):f=g:=Go.Proofs.Ytnddhkhmbjeefaa.canon h _ f g (Nat.le_refl _) hf.1 hf.2 hg.1 hg.2 hs
end
section
variable {S:List Int} {M:Int} {N N' T:List Nd} {p:Nat→Nat} {f lv:Int} {ks:List Int}
theorem sayN_app (h:Ok S M N) (hp:Pnt S p):∀(n:Nat) (f:Int),0≤f→f<(N.length:Int)+2→sayN (N++T) p n f=sayN N p n f:=by
 intro n
 induction n with
 |zero=>intro f _ _;rfl
 |succ n ih=>
  intro f h0 h1
  by_cases hf:2≤f
  ·obtain⟨l,ks,hn⟩:=h.ndAt hf h1
   have hk:(f-2).toNat<N.length:=by omega
   have e1:(N++T).getD (f-2).toNat (0,[])=((l:Int),ks):=by
    rw[List.getD_eq_getElem?_getD,List.getElem?_append_left hk,hn.at_]
    rfl
   obtain⟨k0,k1,_⟩:=hn.kid (p l) (hn.cls hp)
   rw[hn.say,sayN,if_pos hf,e1]
   simp only[Int.toNat_natCast]
   exact ih _ k0 (by omega)
  ·rw[sayN_low _ hf,sayN_low _ hf]
theorem sayR_app (h:Ok S M N) (hp:Pnt S p) (hf:hasR N f):sayR (N++T) p f=sayR N p f:=sayN_app h hp _ f hf.1 hf.2
theorem MkP.says (h:Ok S M N) (hp:Pnt S p) (k:MkP S M N lv ks f 0 N'):hasR N' f∧sayR N' p f=sayR N p (ks.getD (p lv.toNat) 0)∧(∀g,hasR N g→hasR N' g∧sayR N' p g=sayR N p g):=by
 have kid:May S N lv ks→p lv.toNat<ks.length∧ks.getD (p lv.toNat) 0∈ks:=fun m=>by
  have h1:=m.ge
  have h2:=m.lt
  have h3:=m.len
  have h4:=hp lv.toNat (by omega)
  have h5:p lv.toNat<ks.length:=by omega
  refine⟨h5,?_⟩
  rw[List.getD_eq_getElem?_getD,List.getElem?_eq_getElem h5]
  exact List.getElem_mem _
 rcases k with⟨_,_,h1,_⟩|⟨m,o,rfl,_,rfl⟩|⟨m,o,⟨i,hi,rfl⟩,_,rfl⟩|⟨_,_,_,_,_,h1,_⟩|⟨m,o,hn,hl,rfl,_,rfl⟩
 ·omega
 ·obtain⟨h1,h2⟩:=kid m
  have e1:=o _ h2
  have h3:ks.getD 0 0∈ks:=by rw[←e1];exact h2
  exact⟨(m.kid _ h3).1,by rw[e1],fun g hg=>⟨hg,rfl⟩⟩
 ·have hlt:=at_lt hi
  have h2:(2:Int)≤(i:Int)+2:=by omega
  have h3:(i:Int)+2<(N'.length:Int)+2:=by omega
  obtain⟨l,ks',hd⟩:=h.ndAt h2 h3
  have e1:=hd.at_
  rw[show((i:Int)+2-2).toNat=i by omega,hi] at e1
  simp only[Option.some.injEq,Prod.mk.injEq] at e1
  obtain⟨rfl,rfl⟩:=e1
  refine⟨⟨by omega,h3⟩,?_,fun g hg=>⟨hg,rfl⟩⟩
  rw[hd.says h hp h2 h3,Int.toNat_natCast]
 ·omega
 ·have h1:=h.add m o hn hl
  have h2:(2:Int)≤(N.length:Int)+2:=by omega
  have h3:(N.length:Int)+2<((N++[(lv,ks)]).length:Int)+2:=by rw[List.length_append,List.length_singleton];omega
  obtain⟨l,ks',hd⟩:=h1.ndAt h2 h3
  have e1:=hd.at_
  rw[show((N.length:Int)+2-2).toNat=N.length by omega,List.getElem?_append_right (Nat.le_refl _),Nat.sub_self] at e1
  simp only[List.getElem?_cons_zero,Option.some.injEq,Prod.mk.injEq] at e1
  obtain⟨rfl,rfl⟩:=e1
  obtain⟨h5,h6⟩:=kid m
  refine⟨⟨by omega,h3⟩,?_,fun g hg=>⟨⟨hg.1,?_⟩,sayR_app h hp hg⟩⟩
  ·rw[hd.says h1 hp h2 h3]
   rw[Int.toNat_natCast] at h6 ⊢
   exact sayR_app h hp (m.kid _ h6).1
  ·have:=hg.2
   rw[List.length_append,List.length_singleton]
   omega
end
section
variable {S:List Int} {M:Int} {N N' T:List Nd} {p:Nat→Nat} {f g r lv:Int} {ks:List Int} {op:Bool→Bool→Bool} {q:(Nat→Nat)→(Nat→Nat)}
theorem hasR_app (h:hasR N f):hasR (N++T) f:=⟨h.1,by have:=h.2;rw[List.length_append];omega⟩
theorem lvl_app (h:hasR N f):lvl S (N++T) f=lvl S N f:=by
 have e:=lvl_take (S:=S) (N:=N++T) (i:=N.length) (f:=f) (by rw[List.take_left' rfl];exact h)
 rw[List.take_left' rfl] at e
 exact e.symm
theorem lvl_at {i:Nat} (hi:N[i]? =some (lv,ks)):lvl S N ((i:Int)+2)=lv:=by
 have hlt:=at_lt hi
 unfold lvl
 rw[if_pos (by omega),List.getD_eq_getElem?_getD,show((i:Int)+2-2).toNat=i by omega,hi]
 rfl
theorem Ok.lvl_le (h:Ok S M N) (hf:hasR N f):0≤lvl S N f∧lvl S N f≤(S.length:Int):=by
 by_cases h2:2≤f
 ·obtain⟨l,ks,hn⟩:=h.ndAt h2 hf.2
  have:=hn.lev
  have:=hn.lt
  omega
 ·rw[lvl_low h2];omega
theorem Ok.node_of_lvl (h:Ok S M N) (hf:hasR N f) {l:Nat} (hl:lvl S N f=(l:Int)) (hs:l<S.length):2≤f∧∃ks,NdAt S N f l ks:=by
 by_cases h2:2≤f
 ·obtain⟨l',ks,hn⟩:=h.ndAt h2 hf.2
  have:=hn.lev
  have e:l'=l:=by omega
  subst e
  exact⟨h2,ks,hn⟩
 ·rw[lvl_low h2] at hl;omega
def kidR (S:List Int) (N:List Nd) (l:Nat) (f:Int) (c:Nat):Int:=if lvl S N f=(l:Int) then(N.getD (f-2).toNat (0,[])).2.getD c 0 else f
theorem kidR_node {l c:Nat} (hn:NdAt S N f l ks):kidR S N l f c=ks.getD c 0:=by
 unfold kidR
 have e:N.getD (f-2).toNat (0,[])=((l:Int),ks):=by rw[List.getD_eq_getElem?_getD,hn.at_];rfl
 rw[if_pos hn.lev,e]
theorem kidR_self {l c:Nat} (hl:lvl S N f≠(l:Int)):kidR S N l f c=f:=by unfold kidR;rw[if_neg hl]
theorem kidR_has {l c:Nat} (h:Ok S M N) (hs:l<S.length) (hf:hasR N f) (hl:(l:Int)≤lvl S N f) (hc:(c:Int)<S.getD l 0):hasR N (kidR S N l f c)∧(l:Int)<lvl S N (kidR S N l f c):=by
 by_cases e:lvl S N f=(l:Int)
 ·obtain⟨h2,ks,hn⟩:=h.node_of_lvl hf e hs
  rw[kidR_node hn]
  have hl2:=hn.len
  obtain⟨k0,k1,k2⟩:=hn.kid c (by omega)
  exact⟨⟨k0,by have:=hf.2;omega⟩,k2⟩
 ·rw[kidR_self e]
  exact⟨hf,by omega⟩
theorem kidR_say {l:Nat} (h:Ok S M N) (hs:l<S.length) (hf:hasR N f) (hp:Pnt S p):sayR N p f=sayR N p (kidR S N l f (p l)):=by
 by_cases e:lvl S N f=(l:Int)
 ·obtain⟨h2,ks,hn⟩:=h.node_of_lvl hf e hs
  rw[kidR_node hn]
  exact hn.says h hp h2 hf.2
 ·rw[kidR_self e]
structure PtOk (S:List Int) (N:List Nd) (op:Bool→Bool→Bool) (q:(Nat→Nat)→(Nat→Nat)) (f g r:Int):Prop where
 has:hasR N r
 say:∀p,Pnt S p→sayR N p r=op (sayR N (q p) f) (sayR N (q p) g)
 lev:min (lvl S N f) (lvl S N g)≤lvl S N r
theorem PtOk.app (h:Ok S M N) (hq:∀p,Pnt S p→Pnt S (q p)) (hf:hasR N f) (hg:hasR N g) (k:PtOk S N op q f g r):PtOk S (N++T) op q f g r:=
 ⟨hasR_app k.has,fun p hp=>by rw[sayR_app h hp k.has,sayR_app h (hq p hp) hf,sayR_app h (hq p hp) hg];exact k.say p hp,by rw[lvl_app hf,lvl_app hg,lvl_app k.has];exact k.lev⟩
theorem PtOk.may {l:Nat} (h:Ok S M N) (hs:l<S.length) (hf:hasR N f) (hg:hasR N g) (hm:min (lvl S N f) (lvl S N g)=(l:Int)) (hlen:(ks.length:Int)=S.getD l 0) (hk:∀c,c<ks.length→PtOk S N op q (kidR S N l f c) (kidR S N l g c) (ks.getD c 0)):May S N (l:Int) ks:=by
 refine⟨by omega,by omega,by rw[Int.toNat_natCast];exact hlen,fun x hx=>?_⟩
 obtain⟨c,hc,rfl⟩:=List.getElem_of_mem hx
 have e:ks.getD c 0=ks[c]:=by rw[List.getD_eq_getElem?_getD,List.getElem?_eq_getElem hc];rfl
 have k:=hk c hc
 rw[e] at k
 have h1:=(kidR_has (c:=c) h hs hf (by omega) (by omega)).2
 have h2:=(kidR_has (c:=c) h hs hg (by omega) (by omega)).2
 have h3:=k.lev
 exact⟨k.has,by omega⟩
theorem PtOk.node {l:Nat} (h:Ok S M N) (hq:∀p,Pnt S p→Pnt S (q p)) (hs:l<S.length) (hf:hasR N f) (hg:hasR N g) (hm:min (lvl S N f) (lvl S N g)=(l:Int)) (hql:∀p,q p l=p l) (hlen:(ks.length:Int)=S.getD l 0) (hk:∀c,c<ks.length→PtOk S N op q (kidR S N l f c) (kidR S N l g c) (ks.getD c 0))
 (k:MkP S M N (l:Int) ks r 0 N'):PtOk S N' op q f g r∧∃T,N'=N++T:=by
 have hT:∃T,N'=N++T:=by
  rcases k with⟨_,_,h1,_⟩|⟨_,_,_,_,rfl⟩|⟨_,_,_,_,rfl⟩|⟨_,_,_,_,_,h1,_⟩|⟨_,_,_,_,_,_,rfl⟩
  ·omega
  ·exact⟨[],by simp⟩
  ·exact⟨[],by simp⟩
  ·omega
  ·exact⟨_,rfl⟩
 refine⟨⟨?_,fun p hp=>?_,?_⟩,hT⟩
 ·exact(MkP.says h (Pnt.zero h.sz) k).1
 ·obtain⟨_,e,_⟩:=MkP.says h hp k
  rw[e,Int.toNat_natCast]
  have hc:p l<ks.length:=by have:=hp l hs;omega
  rw[(hk _ hc).say p hp]
  obtain⟨T,rfl⟩:=hT
  rw[sayR_app h (hq p hp) hf,sayR_app h (hq p hp) hg,kidR_say h hs hf (hq p hp),kidR_say h hs hg (hq p hp),hql p]
 ·have hmay:=PtOk.may h hs hf hg hm hlen hk
  have hpos:0<ks.length:=by
   have h1:=Pnt.zero h.sz l hs
   omega
  rcases k with⟨_,_,h1,_⟩|⟨m,o,rfl,_,rfl⟩|⟨m,o,⟨i,hi,rfl⟩,_,rfl⟩|⟨_,_,_,_,_,h1,_⟩|⟨m,o,hn,hl,rfl,_,rfl⟩
  ·omega
  ·have hmem:ks.getD 0 0∈ks:=by
    rw[List.getD_eq_getElem?_getD,List.getElem?_eq_getElem hpos]
    exact List.getElem_mem _
   have:=(m.kid _ hmem).2
   omega
  ·rw[hm,lvl_at hi]
   exact Int.le_refl _
  ·omega
  ·rw[lvl_app hf,lvl_app hg,hm,lvl_at (lv:=(l:Int)) (ks:=ks) (i:=N.length) (by simp)]
   exact Int.le_refl _
end
end Go.Proofs.Ytnddhkhmbjeefaa

