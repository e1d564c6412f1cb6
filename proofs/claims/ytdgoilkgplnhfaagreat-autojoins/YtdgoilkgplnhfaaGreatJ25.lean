/-
  after by its contract. Condition: there are at most 64 pieces, each right.
-/
import Derived.Test.YtdgoilkgplnhfaaGreatJ24
namespace Go.Proofs.YtdgoilkgplnhfaaGreat
open Go.RowKit Go.Lib
def afF (L:List Pc) (f:Nat→Bool) (b:Int):Nat→(Nat→Bool)
 |0=>fun _=>false
 |k+1=>if f k&&tkB (L.getD k ⟨0,0,false,[]⟩) b then(if qa8 (L.getD k ⟨0,0,false,[]⟩).kind then upd (afF L f b k) k else upd (afF L f b k) (k+1)) else afF L f b k
theorem qoe {D:List PD} {f:Nat→Bool} {b:Int} {k:Nat} (h:k<D.length) (h1:(f k&&tkB D[k].p b)=false):afF (D.map PD.p) f b (k+1)=afF (D.map PD.p) f b k:=by
 conv=>lhs;unfold afF
 rw[getD_map D k h,h1];rfl
theorem qlk {D:List PD} {f:Nat→Bool} {b:Int} {k:Nat} (h:k<D.length) (h1:f k=true) (h2:tkB D[k].p b=true) (h3:qa8 D[k].p.kind=true):afF (D.map PD.p) f b (k+1)=upd (afF (D.map PD.p) f b k) k:=by
 conv=>lhs;unfold afF
 rw[getD_map D k h,h1,h2,h3];rfl
theorem qna {D:List PD} {f:Nat→Bool} {b:Int} {k:Nat} (h:k<D.length) (h1:f k=true) (h2:tkB D[k].p b=true) (h3:qa8 D[k].p.kind=false):afF (D.map PD.p) f b (k+1)=upd (afF (D.map PD.p) f b k) (k+1):=by
 conv=>lhs;unfold afF
 rw[getD_map D k h,h1,h2,h3];rfl
theorem Rp.kinds {p:Pc} (h:Rp p):p.kind=1∨p.kind=2∨p.kind=3∨p.kind=4∨p.kind=5:=by
 rcases h with h|h|h
 ·exact .inl h.1
 ·rcases h.1 with h|h|h
  ·exact .inr (.inl h)
  ·exact .inr (.inr (.inr (.inl h)))
  ·exact .inr (.inr (.inr (.inr h)))
 ·exact .inr (.inr (.inl h.1))
structure AfS (w:World) (D:List PD) (f:Nat→Bool) (b:Int) (z:Array Value) (k:Nat) (wr:World):Prop where
 at':wr.heap[w.heap.size]? =some (.cells (mk f) 121 (0,0))
 res:wr.heap[w.heap.size+1]? =some (.cells z 121 (0,0))
 nx:wr.heap[w.heap.size+2]? =some (.cells (mk (afF (D.map PD.p) f b k)) 121 (0,0))
 bel:Below w.heap.size w wr
theorem AfS.next {w:World} {D:List PD} {f:Nat→Bool} {b:Int} {z:Array Value} {k:Nat} {wr w':World} (h:AfS w D f b z k wr) (x:Below wr.heap.size wr w') (he:afF (D.map PD.p) f b (k+1)=afF (D.map PD.p) f b k):AfS w D f b z (k+1) w':=
 ⟨(x.block _ (lt_of_block h.at')).trans h.at',(x.block _ (lt_of_block h.res)).trans h.res,by rw[he];exact(x.block _ (lt_of_block h.nx)).trans h.nx,bt h.bel x (Nat.le_refl _)⟩
theorem AfS.put {w:World} {D:List PD} {f:Nat→Bool} {b:Int} {z:Array Value} {k:Nat} {wr w':World} (h:AfS w D f b z k wr) (x:Below wr.heap.size wr w') (j:Nat) (he:afF (D.map PD.p) f b (k+1)=upd (afF (D.map PD.p) f b k) j):AfS w D f b z (k+1) (w'.setCell ⟨w.heap.size+2,j,none⟩ (.bool true)):=by
 have hk6:Kept (fun i=>i=w.heap.size+2) w' (w'.setCell ⟨w.heap.size+2,j,none⟩ (.bool true)):=Kept.setCell (F:=fun i=>i=w.heap.size+2) (p:=⟨w.heap.size+2,j,none⟩) (Kept.refl _ _) rfl _;have b1:=(x.block _ (lt_of_block h.at')).trans h.at';have b2:=(x.block _ (lt_of_block h.res)).trans h.res;have b3:=(x.block _ (lt_of_block h.nx)).trans h.nx;refine⟨(hk6.block _ (lt_of_block b1) (by omega)).trans b1,(hk6.block _ (lt_of_block b2) (by omega)).trans b2,?_,(bt h.bel x (Nat.le_refl _)).trans (hk6.below (Nat.le_trans h.bel.size x.size) (fun i hi=>by omega))⟩;rw[he,←qfs];exact block_setCell b3 j _
theorem AfS.cell {w:World} {D:List PD} {f:Nat→Bool} {b:Int} {z:Array Value} {k:Nat} {wr w':World} (h:AfS w D f b z k wr) (x:Below wr.heap.size wr w') (j:Nat) (hj:j<65):w'.cell? ⟨w.heap.size+2,j,none⟩=some (.bool (afF (D.map PD.p) f b k j))∧w'.frozen? ⟨w.heap.size+2,j,none⟩=false:=by
 have b3:=(x.block _ (lt_of_block h.nx)).trans h.nx;exact⟨by rw[cell_of_row _ _ _ _ _ _ b3];exact qb8 _ _ hj,frozen_of_row _ _ _ _ _ b3⟩
set_option maxRecDepth 100000 in
set_option maxHeartbeats 8000000 in
theorem qjm (ao:Option Addr) (cap tg:Nat) (D:List PD) (f:Nat→Bool) (b:Int) (w:World) (hl:D.length≤64) (hR:∀d∈D,Rp d.p) (hLen:∀d∈D,d.p.set.length≤140737488351232) (hat:qe2 w ao D) (htk:w.heap[tg]? =some (.cells qn1 149 (0,0))):
 Calls Tryz.prog 72 #[.slice ao D.length cap,.slice (some ⟨tg,0,none⟩) 6 6,.agg (mk f),.int .i64 b] w fun e w'=>e=.returned (.agg (mk (clF (D.map PD.p) (afF (D.map PD.p) f b D.length) D.length)))∧Below w.heap.size w w':=by
 obtain⟨hzv,hsz⟩:=zero_of_info Tryz.info121;have hs:=qaq f;have HAT:=qaa hat;have HTK:=qaa htk;have HR:=qaa hR;have HLEN:=qaa hLen;have S0:Hid (AfS w D f b (mk fun _=>false) 0 (((w.alloc (.cells (mk f) 121)).alloc (.cells (mk fun _=>false) 121)).alloc (.cells (mk fun _=>false) 121))):=by
  have x1:Below w.heap.size w (w.alloc (.cells (mk f) 121)):=al (Below.refl _ _) _;have x2:Below (w.alloc (.cells (mk f) 121)).heap.size (w.alloc (.cells (mk f) 121)) (((w.alloc (.cells (mk f) 121)).alloc (.cells (mk fun _=>false) 121)).alloc (.cells (mk fun _=>false) 121)):=al (al (Below.refl _ _) _) _;have x3:Below ((w.alloc (.cells (mk f) 121)).alloc (.cells (mk fun _=>false) 121)).heap.size ((w.alloc (.cells (mk f) 121)).alloc (.cells (mk fun _=>false) 121)) (((w.alloc (.cells (mk f) 121)).alloc (.cells (mk fun _=>false) 121)).alloc (.cells (mk fun _=>false) 121)):=al (Below.refl _ _) _;have e1:(w.alloc (.cells (mk f) 121)).heap.size=w.heap.size+1:=by simp
  have e2:((w.alloc (.cells (mk f) 121)).alloc (.cells (mk fun _=>false) 121)).heap.size=w.heap.size+2:=by simp
  have b2:=heap_alloc_new (w.alloc (.cells (mk f) 121)) (.cells (mk fun _=>false) 121);have b3:=heap_alloc_new ((w.alloc (.cells (mk f) 121)).alloc (.cells (mk fun _=>false) 121)) (.cells (mk fun _=>false) 121);rw[e1] at b2;rw[e2] at b3;exact⟨(x2.block _ (by omega)).trans (heap_alloc_new _ _),(x3.block _ (by omega)).trans b2,b3,bt x1 x2 (Nat.le_refl _)⟩
 have HZS:=qaa (qaq fun _=>false);obtain⟨a,ha⟩:∃a,Hid (a=mk f):=⟨_,rfl⟩;obtain⟨z,hz⟩:∃z,Hid (z=mk fun _=>false):=⟨_,rfl⟩;rw[←ha.out] at hs S0 ⊢;rw[←hz.out] at hzv S0 HZS;have htl:=lt_of_block htk;clear hat htk hR hLen;go_enter Tryz.func72,Tryz.ntmps72;go_wp2;go_loopw [14] (fun x wr=>∃k:Nat,k≤D.length∧x=.int .i64 k∧Hid (AfS w D f b z k wr)) (fun x _=>D.length-(RowKit.intOf x).toNat)
 case atStart=>exact⟨0,Nat.zero_le _,rfl,S0⟩
 case round=>
  obtain⟨k,hk,rfl,S⟩:=hrel;rename World=>wr
  by_cases hlt:k<D.length
  ·have hlt':(k:Int)<(D.length:Int):=by omega
   have h65:(k:Int)<65:=by omega
   have h66:(k:Int)+1<65:=by omega
   have w66:IntKind.i64.wrap ((k:Int)+1)=(k:Int)+1:=by simp[IntKind.wrap,IntKind.bits,IntKind.signed];omega
   have X:=qaa S.out.bel;rcases HAT.out with h|⟨pb,off,rfl,hb,hc⟩
   ·rw[h] at hlt;simp at hlt
   obtain⟨p0,p1,p2,p3,p4⟩:=hc k hlt;have hbw:pb<wr.heap.size:=Nat.lt_of_lt_of_le hb X.out.size;have r0:=(X.out.cell (p:=⟨pb,off+k*4,none⟩) hb).trans p0;have r1:=(X.out.cell (p:=⟨pb,off+k*4+1,none⟩) hb).trans p1;have r2:=(X.out.cell (p:=⟨pb,off+k*4+2,none⟩) hb).trans p2;have r3:=(X.out.cell (p:=⟨pb,off+k*4+3,none⟩) hb).trans p3;have P4:=qaa (p4.below X.out);have HNO:=qaa (fun h1=>qoe (D:=D) (f:=f) (b:=b) (k:=k) hlt h1);have HMA:=qaa (fun h1 h2 h3=>qlk (D:=D) (f:=f) (b:=b) (k:=k) hlt h1 h2 h3);have HON:=qaa (fun h1 h2 h3=>qna (D:=D) (f:=f) (b:=b) (k:=k) hlt h1 h2 h3);have HRP:=qaa (HR.out _ (List.getElem_mem hlt));have HPL:=qaa (HLEN.out _ (List.getElem_mem hlt));generalize D[k]=d at *;obtain⟨⟨kd,kb,kn,kS⟩,ks,kc⟩:=d;simp only at r0 r1 r2 r3 P4 HRP HPL HNO HMA HON;clear hc p0 p1 p2 p3 p4;have HMN:=qaa (fun w=>qe3 kd kb kn ks kS.length kc w);have X4:=qaa (al (Below.refl wr.heap.size wr) (.cells #[.int .i64 kd,.int .i64 kb,.bool kn,.slice ks kS.length kc] 96));have B4:=qaa (heap_alloc_new wr (.cells #[.int .i64 kd,.int .i64 kb,.bool kn,.slice ks kS.length kc] 96));obtain⟨q0,q1,q2,q3⟩:=qhn B4.out;have hw4:=lt_of_block B4.out;have BA4:=qaa ((X4.out.block _ (lt_of_block S.out.at')).trans S.out.at');have hwl:=lt_of_block BA4.out;have c0:(wr.alloc (.cells #[.int .i64 kd,.int .i64 kb,.bool kn,.slice ks kS.length kc] 96)).cell? ⟨w.heap.size,k,none⟩=some (.bool (f k)):=by rw[cell_of_row _ _ _ _ _ _ BA4.out];exact qb8 _ _ (by omega)
   have BT4:=qaa ((bt X.out X4.out (Nat.le_refl _)).block _ htl|>.trans HTK.out);have htl4:=lt_of_block BT4.out;have tc:∀j u,qn1[j]? =some u→(wr.alloc (.cells #[.int .i64 kd,.int .i64 kb,.bool kn,.slice ks kS.length kc] 96)).cell? ⟨tg,j,none⟩=some u:=fun j u hu=>by rw[cell_of_row _ _ _ _ _ _ BT4.out];exact hu
   cases hf:f k with
   |false=>
    have HE:=qaa (HNO.out (by rw[hf,Bool.false_and]));rw[hf] at c0;clear tc q0 q1 q2 q3;go_wp2;clear r0 r1 r2 r3;generalize wr.alloc (.cells #[.int .i64 kd,.int .i64 kb,.bool kn,.slice ks kS.length kc] 96)=W at *;go_quiet (fail);go_wp2;go_roundw
    case rel=>exact⟨k+1,by omega,by go_num,S.out.next (bt X4.out (below_drewN _ _ _) (Nat.le_refl _)) HE.out⟩
    case measure=>simp[RowKit.intOf];omega
   |true=>
    rw[hf] at c0;rcases HRP.out.kinds with hkd|hkd|hkd|hkd|hkd
    ·simp only at hkd
     subst hkd;have t0:=tc 1 _ rfl;have HTB:Hid (tkB ⟨1,kb,kn,kS⟩ b=decide (b=kb)):=by simp[Hid,tkB]
     have HMK:Hid (qa8 1=false):=rfl;rw[HMK.out] at HMN;have HKT:=qaa (fun W (_:Below wr.heap.size wr W)=>qm5 1 kb kn ks kS.length kc b W);clear tc;obtain⟨tb,HB⟩:∃tb,Hid (tb=decide (b=kb)):=⟨_,rfl⟩;rw[←HB.out] at HTB HKT;cases tb with
     |false=>
      clear HB;have HE:=qaa (HNO.out (by rw[HTB.out,Bool.and_false]));go_wp2;clear r0 r1 r2 r3;generalize hgW:wr.alloc (.cells #[.int .i64 1,.int .i64 kb,.bool kn,.slice ks kS.length kc] 96)=W at *;clear hgW;go_region_held3 (fun w'=>w'.cell? ⟨w.heap.size,k,none⟩=some (.bool true)∧w'.cell? ⟨tg,1,none⟩=some (.func (.func 104) #[] #[])∧w'.cell? ⟨wr.heap.size,0,none⟩=some (.int .i64 1)∧w'.cell? ⟨wr.heap.size,1,none⟩=some (.int .i64 kb)∧w'.cell? ⟨wr.heap.size,2,none⟩=some (.bool kn)∧w'.cell? ⟨wr.heap.size,3,none⟩=some (.slice ks kS.length kc)) (first|assumption|exact⟨c0,t0,q0,q1,q2,q3⟩|exact⟨g0,g1,g2,g3,g4,g5⟩|(simp[go_sem, *];done))
       (first|(go_at_call 104;refine(HKT.out _ (bt X4.out (Below.refl _ _).drew (Nat.le_refl _))).mono ?_;rintro e w5 ⟨rfl,x5⟩;have y5:Below W.heap.size W w5:=(Below.refl _ _).drew.trans x5;have X5:=qaa (bt X4.out y5 (Nat.le_refl _));have g0:=(y5.cell (p:=⟨w.heap.size,k,none⟩) hwl).trans c0;have g1:=(y5.cell (p:=⟨tg,1,none⟩) htl4).trans t0;have g2:=(y5.cell (p:=⟨wr.heap.size,0,none⟩) hw4).trans q0;have g3:=(y5.cell (p:=⟨wr.heap.size,1,none⟩) hw4).trans q1;have g4:=(y5.cell (p:=⟨wr.heap.size,2,none⟩) hw4).trans q2;have g5:=(y5.cell (p:=⟨wr.heap.size,3,none⟩) hw4).trans q3;clear x5 y5))
      go_wp2;go_roundw
      case rel=>exact⟨k+1,by omega,by go_num,S.out.next X5.out HE.out⟩
      case measure=>simp[RowKit.intOf];omega
     |true=>
      clear HB;have HE:=qaa (HON.out hf HTB.out HMK.out);go_wp2;clear r0 r1 r2 r3;generalize hgW:wr.alloc (.cells #[.int .i64 1,.int .i64 kb,.bool kn,.slice ks kS.length kc] 96)=W at *;clear hgW;go_region_held3 (fun w'=>w'.cell? ⟨w.heap.size,k,none⟩=some (.bool true)∧w'.cell? ⟨tg,1,none⟩=some (.func (.func 104) #[] #[])∧w'.cell? ⟨wr.heap.size,0,none⟩=some (.int .i64 1)∧w'.cell? ⟨wr.heap.size,1,none⟩=some (.int .i64 kb)∧w'.cell? ⟨wr.heap.size,2,none⟩=some (.bool kn)∧w'.cell? ⟨wr.heap.size,3,none⟩=some (.slice ks kS.length kc)) (first|assumption|exact⟨c0,t0,q0,q1,q2,q3⟩|exact⟨g0,g1,g2,g3,g4,g5⟩|(simp[go_sem, *];done))
       (first|(go_at_call 104;refine(HKT.out _ (bt X4.out (Below.refl _ _).drew (Nat.le_refl _))).mono ?_;rintro e w5 ⟨rfl,x5⟩;have y5:Below W.heap.size W w5:=(Below.refl _ _).drew.trans x5;have X5:=qaa (bt X4.out y5 (Nat.le_refl _));have g0:=(y5.cell (p:=⟨w.heap.size,k,none⟩) hwl).trans c0;have g1:=(y5.cell (p:=⟨tg,1,none⟩) htl4).trans t0;have g2:=(y5.cell (p:=⟨wr.heap.size,0,none⟩) hw4).trans q0;have g3:=(y5.cell (p:=⟨wr.heap.size,1,none⟩) hw4).trans q1;have g4:=(y5.cell (p:=⟨wr.heap.size,2,none⟩) hw4).trans q2;have g5:=(y5.cell (p:=⟨wr.heap.size,3,none⟩) hw4).trans q3;clear x5 y5))
      go_wp2_with (go_at_call 103;refine(HMN.out _).mono ?_;rintro e w6 ⟨rfl,x6⟩;have X6:=qaa (bt X5.out x6 (Nat.le_refl _));obtain⟨e1,e2⟩:=S.out.cell X6.out (k+1) (by omega);clear x6);go_roundw
      case rel=>exact⟨k+1,by omega,by go_num,S.out.put X6.out _ HE.out⟩
      case measure=>simp[RowKit.intOf];omega
    ·simp only at hkd
     subst hkd;have t0:=tc 2 _ rfl;have HTB:Hid (tkB ⟨2,kb,kn,kS⟩ b=(b !=47)):=by simp[Hid,tkB]
     have HMK:Hid (qa8 2=false):=rfl;rw[HMK.out] at HMN;have HKT:=qaa (fun W (_:Below wr.heap.size wr W)=>qm6 2 kb kn ks kS.length kc b W);clear tc;obtain⟨tb,HB⟩:∃tb,Hid (tb=(b !=47)):=⟨_,rfl⟩;rw[←HB.out] at HTB HKT;cases tb with
     |false=>
      clear HB;have HE:=qaa (HNO.out (by rw[HTB.out,Bool.and_false]));go_wp2;clear r0 r1 r2 r3;generalize hgW:wr.alloc (.cells #[.int .i64 2,.int .i64 kb,.bool kn,.slice ks kS.length kc] 96)=W at *;clear hgW;go_region_held3 (fun w'=>w'.cell? ⟨w.heap.size,k,none⟩=some (.bool true)∧w'.cell? ⟨tg,2,none⟩=some (.func (.func 105) #[] #[])∧w'.cell? ⟨wr.heap.size,0,none⟩=some (.int .i64 2)∧w'.cell? ⟨wr.heap.size,1,none⟩=some (.int .i64 kb)∧w'.cell? ⟨wr.heap.size,2,none⟩=some (.bool kn)∧w'.cell? ⟨wr.heap.size,3,none⟩=some (.slice ks kS.length kc)) (first|assumption|exact⟨c0,t0,q0,q1,q2,q3⟩|exact⟨g0,g1,g2,g3,g4,g5⟩|(simp[go_sem, *];done))
       (first|(go_at_call 105;refine(HKT.out _ (bt X4.out (Below.refl _ _).drew (Nat.le_refl _))).mono ?_;rintro e w5 ⟨rfl,x5⟩;have y5:Below W.heap.size W w5:=(Below.refl _ _).drew.trans x5;have X5:=qaa (bt X4.out y5 (Nat.le_refl _));have g0:=(y5.cell (p:=⟨w.heap.size,k,none⟩) hwl).trans c0;have g1:=(y5.cell (p:=⟨tg,2,none⟩) htl4).trans t0;have g2:=(y5.cell (p:=⟨wr.heap.size,0,none⟩) hw4).trans q0;have g3:=(y5.cell (p:=⟨wr.heap.size,1,none⟩) hw4).trans q1;have g4:=(y5.cell (p:=⟨wr.heap.size,2,none⟩) hw4).trans q2;have g5:=(y5.cell (p:=⟨wr.heap.size,3,none⟩) hw4).trans q3;clear x5 y5))
      go_wp2;go_roundw
      case rel=>exact⟨k+1,by omega,by go_num,S.out.next X5.out HE.out⟩
      case measure=>simp[RowKit.intOf];omega
     |true=>
      clear HB;have HE:=qaa (HON.out hf HTB.out HMK.out);go_wp2;clear r0 r1 r2 r3;generalize hgW:wr.alloc (.cells #[.int .i64 2,.int .i64 kb,.bool kn,.slice ks kS.length kc] 96)=W at *;clear hgW;go_region_held3 (fun w'=>w'.cell? ⟨w.heap.size,k,none⟩=some (.bool true)∧w'.cell? ⟨tg,2,none⟩=some (.func (.func 105) #[] #[])∧w'.cell? ⟨wr.heap.size,0,none⟩=some (.int .i64 2)∧w'.cell? ⟨wr.heap.size,1,none⟩=some (.int .i64 kb)∧w'.cell? ⟨wr.heap.size,2,none⟩=some (.bool kn)∧w'.cell? ⟨wr.heap.size,3,none⟩=some (.slice ks kS.length kc)) (first|assumption|exact⟨c0,t0,q0,q1,q2,q3⟩|exact⟨g0,g1,g2,g3,g4,g5⟩|(simp[go_sem, *];done))
       (first|(go_at_call 105;refine(HKT.out _ (bt X4.out (Below.refl _ _).drew (Nat.le_refl _))).mono ?_;rintro e w5 ⟨rfl,x5⟩;have y5:Below W.heap.size W w5:=(Below.refl _ _).drew.trans x5;have X5:=qaa (bt X4.out y5 (Nat.le_refl _));have g0:=(y5.cell (p:=⟨w.heap.size,k,none⟩) hwl).trans c0;have g1:=(y5.cell (p:=⟨tg,2,none⟩) htl4).trans t0;have g2:=(y5.cell (p:=⟨wr.heap.size,0,none⟩) hw4).trans q0;have g3:=(y5.cell (p:=⟨wr.heap.size,1,none⟩) hw4).trans q1;have g4:=(y5.cell (p:=⟨wr.heap.size,2,none⟩) hw4).trans q2;have g5:=(y5.cell (p:=⟨wr.heap.size,3,none⟩) hw4).trans q3;clear x5 y5))
      go_wp2_with (go_at_call 103;refine(HMN.out _).mono ?_;rintro e w6 ⟨rfl,x6⟩;have X6:=qaa (bt X5.out x6 (Nat.le_refl _));obtain⟨e1,e2⟩:=S.out.cell X6.out (k+1) (by omega);clear x6);go_roundw
      case rel=>exact⟨k+1,by omega,by go_num,S.out.put X6.out _ HE.out⟩
      case measure=>simp[RowKit.intOf];omega
    ·simp only at hkd
     subst hkd;have t0:=tc 3 _ rfl;have HTB:Hid (tkB ⟨3,kb,kn,kS⟩ b=((b !=47)&&(qef b kS !=kn))):=by simp[Hid,tkB]
     have HMK:Hid (qa8 3=false):=rfl;rw[HMK.out] at HMN;have HKT:Hid (∀W,Below wr.heap.size wr W→Calls Tryz.prog 106 #[.agg #[.int .i64 3,.int .i64 kb,.bool kn,.slice ks kS.length kc],.int .i64 b] W fun e w'=>e=.returned (.bool ((b !=47)&&(qef b kS !=kn)))∧Below W.heap.size W w'):=fun W x=>qm9 3 kb kn ks kc kS b W HPL.out (by
      rcases HRP.out with h|h|h
      ·exact absurd h.1 (show ¬(3:Int)=1 by decide)
      ·rcases h.1 with h|h|h
       ·exact absurd h (show ¬(3:Int)=2 by decide)
       ·exact absurd h (show ¬(3:Int)=4 by decide)
       ·exact absurd h (show ¬(3:Int)=5 by decide)
      ·exact h.2.2.1) (P4.out.below x)
     clear tc;obtain⟨tb,HB⟩:∃tb,Hid (tb=((b !=47)&&(qef b kS !=kn))):=⟨_,rfl⟩;rw[←HB.out] at HTB HKT;cases tb with
     |false=>
      clear HB;have HE:=qaa (HNO.out (by rw[HTB.out,Bool.and_false]));go_wp2;clear r0 r1 r2 r3;generalize hgW:wr.alloc (.cells #[.int .i64 3,.int .i64 kb,.bool kn,.slice ks kS.length kc] 96)=W at *;clear hgW;go_region_held3 (fun w'=>w'.cell? ⟨w.heap.size,k,none⟩=some (.bool true)∧w'.cell? ⟨tg,3,none⟩=some (.func (.func 106) #[] #[])∧w'.cell? ⟨wr.heap.size,0,none⟩=some (.int .i64 3)∧w'.cell? ⟨wr.heap.size,1,none⟩=some (.int .i64 kb)∧w'.cell? ⟨wr.heap.size,2,none⟩=some (.bool kn)∧w'.cell? ⟨wr.heap.size,3,none⟩=some (.slice ks kS.length kc)) (first|assumption|exact⟨c0,t0,q0,q1,q2,q3⟩|exact⟨g0,g1,g2,g3,g4,g5⟩|(simp[go_sem, *];done))
       (first|(go_at_call 106;refine(HKT.out _ (bt X4.out (Below.refl _ _).drew (Nat.le_refl _))).mono ?_;rintro e w5 ⟨rfl,x5⟩;have y5:Below W.heap.size W w5:=(Below.refl _ _).drew.trans x5;have X5:=qaa (bt X4.out y5 (Nat.le_refl _));have g0:=(y5.cell (p:=⟨w.heap.size,k,none⟩) hwl).trans c0;have g1:=(y5.cell (p:=⟨tg,3,none⟩) htl4).trans t0;have g2:=(y5.cell (p:=⟨wr.heap.size,0,none⟩) hw4).trans q0;have g3:=(y5.cell (p:=⟨wr.heap.size,1,none⟩) hw4).trans q1;have g4:=(y5.cell (p:=⟨wr.heap.size,2,none⟩) hw4).trans q2;have g5:=(y5.cell (p:=⟨wr.heap.size,3,none⟩) hw4).trans q3;clear x5 y5))
      go_wp2;go_roundw
      case rel=>exact⟨k+1,by omega,by go_num,S.out.next X5.out HE.out⟩
      case measure=>simp[RowKit.intOf];omega
     |true=>
      clear HB;have HE:=qaa (HON.out hf HTB.out HMK.out);go_wp2;clear r0 r1 r2 r3;generalize hgW:wr.alloc (.cells #[.int .i64 3,.int .i64 kb,.bool kn,.slice ks kS.length kc] 96)=W at *;clear hgW;go_region_held3 (fun w'=>w'.cell? ⟨w.heap.size,k,none⟩=some (.bool true)∧w'.cell? ⟨tg,3,none⟩=some (.func (.func 106) #[] #[])∧w'.cell? ⟨wr.heap.size,0,none⟩=some (.int .i64 3)∧w'.cell? ⟨wr.heap.size,1,none⟩=some (.int .i64 kb)∧w'.cell? ⟨wr.heap.size,2,none⟩=some (.bool kn)∧w'.cell? ⟨wr.heap.size,3,none⟩=some (.slice ks kS.length kc)) (first|assumption|exact⟨c0,t0,q0,q1,q2,q3⟩|exact⟨g0,g1,g2,g3,g4,g5⟩|(simp[go_sem, *];done))
       (first|(go_at_call 106;refine(HKT.out _ (bt X4.out (Below.refl _ _).drew (Nat.le_refl _))).mono ?_;rintro e w5 ⟨rfl,x5⟩;have y5:Below W.heap.size W w5:=(Below.refl _ _).drew.trans x5;have X5:=qaa (bt X4.out y5 (Nat.le_refl _));have g0:=(y5.cell (p:=⟨w.heap.size,k,none⟩) hwl).trans c0;have g1:=(y5.cell (p:=⟨tg,3,none⟩) htl4).trans t0;have g2:=(y5.cell (p:=⟨wr.heap.size,0,none⟩) hw4).trans q0;have g3:=(y5.cell (p:=⟨wr.heap.size,1,none⟩) hw4).trans q1;have g4:=(y5.cell (p:=⟨wr.heap.size,2,none⟩) hw4).trans q2;have g5:=(y5.cell (p:=⟨wr.heap.size,3,none⟩) hw4).trans q3;clear x5 y5))
      go_wp2_with (go_at_call 103;refine(HMN.out _).mono ?_;rintro e w6 ⟨rfl,x6⟩;have X6:=qaa (bt X5.out x6 (Nat.le_refl _));obtain⟨e1,e2⟩:=S.out.cell X6.out (k+1) (by omega);clear x6);go_roundw
      case rel=>exact⟨k+1,by omega,by go_num,S.out.put X6.out _ HE.out⟩
      case measure=>simp[RowKit.intOf];omega
    ·simp only at hkd
     subst hkd;have t0:=tc 4 _ rfl;have HTB:Hid (tkB ⟨4,kb,kn,kS⟩ b=(b !=47)):=by simp[Hid,tkB]
     have HMK:Hid (qa8 4=true):=rfl;rw[HMK.out] at HMN;have HKT:=qaa (fun W (_:Below wr.heap.size wr W)=>qm7 4 kb kn ks kS.length kc b W);clear tc;obtain⟨tb,HB⟩:∃tb,Hid (tb=(b !=47)):=⟨_,rfl⟩;rw[←HB.out] at HTB HKT;cases tb with
     |false=>
      clear HB;have HE:=qaa (HNO.out (by rw[HTB.out,Bool.and_false]));go_wp2;clear r0 r1 r2 r3;generalize hgW:wr.alloc (.cells #[.int .i64 4,.int .i64 kb,.bool kn,.slice ks kS.length kc] 96)=W at *;clear hgW;go_region_held3 (fun w'=>w'.cell? ⟨w.heap.size,k,none⟩=some (.bool true)∧w'.cell? ⟨tg,4,none⟩=some (.func (.func 108) #[] #[])∧w'.cell? ⟨wr.heap.size,0,none⟩=some (.int .i64 4)∧w'.cell? ⟨wr.heap.size,1,none⟩=some (.int .i64 kb)∧w'.cell? ⟨wr.heap.size,2,none⟩=some (.bool kn)∧w'.cell? ⟨wr.heap.size,3,none⟩=some (.slice ks kS.length kc)) (first|assumption|exact⟨c0,t0,q0,q1,q2,q3⟩|exact⟨g0,g1,g2,g3,g4,g5⟩|(simp[go_sem, *];done))
       (first|(go_at_call 108;refine(HKT.out _ (bt X4.out (Below.refl _ _).drew (Nat.le_refl _))).mono ?_;rintro e w5 ⟨rfl,x5⟩;have y5:Below W.heap.size W w5:=(Below.refl _ _).drew.trans x5;have X5:=qaa (bt X4.out y5 (Nat.le_refl _));have g0:=(y5.cell (p:=⟨w.heap.size,k,none⟩) hwl).trans c0;have g1:=(y5.cell (p:=⟨tg,4,none⟩) htl4).trans t0;have g2:=(y5.cell (p:=⟨wr.heap.size,0,none⟩) hw4).trans q0;have g3:=(y5.cell (p:=⟨wr.heap.size,1,none⟩) hw4).trans q1;have g4:=(y5.cell (p:=⟨wr.heap.size,2,none⟩) hw4).trans q2;have g5:=(y5.cell (p:=⟨wr.heap.size,3,none⟩) hw4).trans q3;clear x5 y5))
      go_wp2;go_roundw
      case rel=>exact⟨k+1,by omega,by go_num,S.out.next X5.out HE.out⟩
      case measure=>simp[RowKit.intOf];omega
     |true=>
      clear HB;have HE:=qaa (HMA.out hf HTB.out HMK.out);go_wp2;clear r0 r1 r2 r3;generalize hgW:wr.alloc (.cells #[.int .i64 4,.int .i64 kb,.bool kn,.slice ks kS.length kc] 96)=W at *;clear hgW;go_region_held3 (fun w'=>w'.cell? ⟨w.heap.size,k,none⟩=some (.bool true)∧w'.cell? ⟨tg,4,none⟩=some (.func (.func 108) #[] #[])∧w'.cell? ⟨wr.heap.size,0,none⟩=some (.int .i64 4)∧w'.cell? ⟨wr.heap.size,1,none⟩=some (.int .i64 kb)∧w'.cell? ⟨wr.heap.size,2,none⟩=some (.bool kn)∧w'.cell? ⟨wr.heap.size,3,none⟩=some (.slice ks kS.length kc)) (first|assumption|exact⟨c0,t0,q0,q1,q2,q3⟩|exact⟨g0,g1,g2,g3,g4,g5⟩|(simp[go_sem, *];done))
       (first|(go_at_call 108;refine(HKT.out _ (bt X4.out (Below.refl _ _).drew (Nat.le_refl _))).mono ?_;rintro e w5 ⟨rfl,x5⟩;have y5:Below W.heap.size W w5:=(Below.refl _ _).drew.trans x5;have X5:=qaa (bt X4.out y5 (Nat.le_refl _));have g0:=(y5.cell (p:=⟨w.heap.size,k,none⟩) hwl).trans c0;have g1:=(y5.cell (p:=⟨tg,4,none⟩) htl4).trans t0;have g2:=(y5.cell (p:=⟨wr.heap.size,0,none⟩) hw4).trans q0;have g3:=(y5.cell (p:=⟨wr.heap.size,1,none⟩) hw4).trans q1;have g4:=(y5.cell (p:=⟨wr.heap.size,2,none⟩) hw4).trans q2;have g5:=(y5.cell (p:=⟨wr.heap.size,3,none⟩) hw4).trans q3;clear x5 y5))
      go_wp2_with (go_at_call 103;refine(HMN.out _).mono ?_;rintro e w6 ⟨rfl,x6⟩;have X6:=qaa (bt X5.out x6 (Nat.le_refl _));obtain⟨e1,e2⟩:=S.out.cell X6.out k (by omega);clear x6);go_roundw
      case rel=>exact⟨k+1,by omega,by go_num,S.out.put X6.out _ HE.out⟩
      case measure=>simp[RowKit.intOf];omega
    ·simp only at hkd
     subst hkd;have t0:=tc 5 _ rfl;have HTB:Hid (tkB ⟨5,kb,kn,kS⟩ b=true):=by simp[Hid,tkB]
     have HMK:Hid (qa8 5=true):=rfl;rw[HMK.out] at HMN;have HKT:=qaa (fun W (_:Below wr.heap.size wr W)=>qm8 5 kb kn ks kS.length kc b W);clear tc;obtain⟨tb,HB⟩:∃tb,Hid (tb=true):=⟨_,rfl⟩;rw[←HB.out] at HTB HKT;have htb:tb=true:=HB.out;subst htb;clear HB;have HE:=qaa (HMA.out hf HTB.out HMK.out);go_wp2;clear r0 r1 r2 r3;generalize hgW:wr.alloc (.cells #[.int .i64 5,.int .i64 kb,.bool kn,.slice ks kS.length kc] 96)=W at *;clear hgW;go_region_held3 (fun w'=>w'.cell? ⟨w.heap.size,k,none⟩=some (.bool true)∧w'.cell? ⟨tg,5,none⟩=some (.func (.func 109) #[] #[])∧w'.cell? ⟨wr.heap.size,0,none⟩=some (.int .i64 5)∧w'.cell? ⟨wr.heap.size,1,none⟩=some (.int .i64 kb)∧w'.cell? ⟨wr.heap.size,2,none⟩=some (.bool kn)∧w'.cell? ⟨wr.heap.size,3,none⟩=some (.slice ks kS.length kc)) (first|assumption|exact⟨c0,t0,q0,q1,q2,q3⟩|exact⟨g0,g1,g2,g3,g4,g5⟩|(simp[go_sem, *];done))
      (first|(go_at_call 109;refine(HKT.out _ (bt X4.out (Below.refl _ _).drew (Nat.le_refl _))).mono ?_;rintro e w5 ⟨rfl,x5⟩;have y5:Below W.heap.size W w5:=(Below.refl _ _).drew.trans x5;have X5:=qaa (bt X4.out y5 (Nat.le_refl _));have g0:=(y5.cell (p:=⟨w.heap.size,k,none⟩) hwl).trans c0;have g1:=(y5.cell (p:=⟨tg,5,none⟩) htl4).trans t0;have g2:=(y5.cell (p:=⟨wr.heap.size,0,none⟩) hw4).trans q0;have g3:=(y5.cell (p:=⟨wr.heap.size,1,none⟩) hw4).trans q1;have g4:=(y5.cell (p:=⟨wr.heap.size,2,none⟩) hw4).trans q2;have g5:=(y5.cell (p:=⟨wr.heap.size,3,none⟩) hw4).trans q3;clear x5 y5))
     go_wp2_with (go_at_call 103;refine(HMN.out _).mono ?_;rintro e w6 ⟨rfl,x6⟩;have X6:=qaa (bt X5.out x6 (Nat.le_refl _));obtain⟨e1,e2⟩:=S.out.cell X6.out k (by omega);clear x6);go_roundw
     case rel=>exact⟨k+1,by omega,by go_num,S.out.put X6.out _ HE.out⟩
     case measure=>simp[RowKit.intOf];omega
  ·have hnl:¬(k:Int)<(D.length:Int):=by omega
   have hkl:k=D.length:=by omega
   subst hkl;have HCL:=qaa (qei ao cap D (afF (D.map PD.p) f b D.length) wr hl (HAT.out.below S.out.bel));have NX:=qaa S.out.nx;have HI:Hid ((Tryz.prog.info? 121).map (·.size)=some (mk (afF (D.map PD.p) f b D.length)).size):=by unfold Hid;rw[hsz,qaq]
   obtain⟨m,hm⟩:∃m,Hid (m=mk (afF (D.map PD.p) f b D.length)):=⟨_,rfl⟩;rw[←hm.out] at HCL NX HI;obtain⟨n,hn⟩:∃n,Hid (n=mk (clF (D.map PD.p) (afF (D.map PD.p) f b D.length) D.length)):=⟨_,rfl⟩;have HI2:Hid ((Tryz.prog.info? 121).map (·.size)=some n.size):=by unfold Hid;rw[hn.out,hsz,qaq]
   have HZ2:Hid (z.size=n.size):=by unfold Hid;rw[hn.out,HZS.out,qaq]
   have HAL:Hid (n.all (·.oneCell')=true):=by unfold Hid;rw[hn.out];exact qcy _
   rw[←hn.out] at HCL;clear hzv hsz hs;go_wp2_with (first
    |(refine wpList_load_row rfl 121 (.tmp 9) rfl (w.heap.size+2) rfl 121 m (0,0) _ NX.out Tryz.underlying121 rfl HI.out ?_)
    |(go_at_call 71;refine HCL.out.mono ?_;rintro e w5 ⟨rfl,x5⟩;have X5:=qaa (bt S.out.bel x5 (Nat.le_refl _));have BZ5:=qaa ((x5.block _ (lt_of_block S.out.res)).trans S.out.res);clear x5)
    |(refine wpList_store_row rfl 121 (.tmp 8) (.tmp 44) rfl (w.heap.size+1) n rfl rfl 121 z BZ5.out HI2.out HZ2.out HAL.out ?_))
   have HBN:=qaa (setRow_heap w5 (w.heap.size+1) z n 121 (0,0) BZ5.out);refine bodyPost_ret (v:=.agg n) (results_cell_row rfl _ _ (w.heap.size+1) 121 n (0,0) _ rfl HBN.out Tryz.underlying121 rfl HI2.out) rfl ?_;exact⟨by rw[hn.out],below_setRow X5.out (Nat.le_succ _) n⟩
end Go.Proofs.YtdgoilkgplnhfaaGreat

