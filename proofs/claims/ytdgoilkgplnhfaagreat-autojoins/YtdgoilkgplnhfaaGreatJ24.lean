/-
  closed by its contract. Condition: there are at most 64 pieces.
-/
import Derived.Laws.CopyOwn
import Derived.Test.YtdgoilkgplnhfaaGreatJ23
import Derived.Laws.EntriesVeiled
namespace Go.Proofs.YtdgoilkgplnhfaaGreat
open Go.RowKit Go.Lib
theorem getD_map (D:List PD) (k:Nat) (h:k<D.length):((D.map PD.p).getD k ⟨0,0,false,[]⟩)=D[k].p:=by simp[List.getD_eq_getElem?_getD,h]
theorem qjk {D:List PD} {f:Nat→Bool} {k:Nat} (h:k<D.length) (h1:clF (D.map PD.p) f k k=true) (h2:qa8 D[k].p.kind=true):clF (D.map PD.p) f (k+1)=upd (clF (D.map PD.p) f k) (k+1):=by
 conv=>lhs;unfold clF
 rw[getD_map D k h,h1,h2];rfl
theorem qme {D:List PD} {f:Nat→Bool} {k:Nat} (h:k<D.length) (h1:(clF (D.map PD.p) f k k&&qa8 D[k].p.kind)=false):clF (D.map PD.p) f (k+1)=clF (D.map PD.p) f k:=by
 conv=>lhs;unfold clF
 rw[getD_map D k h,h1];rfl
set_option maxRecDepth 100000 in
set_option maxHeartbeats 4000000 in
theorem qei (ao:Option Addr) (cap:Nat) (D:List PD) (f:Nat→Bool) (w:World) (hl:D.length≤64) (hat:qe2 w ao D):
 Calls Tryz.prog 71 #[.slice ao D.length cap,.agg (mk f)] w fun e w'=>e=.returned (.agg (mk (clF (D.map PD.p) f D.length)))∧Below w.heap.size w w':=by
 obtain⟨hzv,hsz⟩:=zero_of_info Tryz.info121;have hs:=qaq f;have HAT:=qaa hat;have HXS:Hid (Below w.heap.size w ((w.alloc (.cells (mk f) 121)).alloc (.cells (mk fun _=>false) 121))):=al (al (Below.refl _ _) _) _;have B0:Hid (((w.alloc (.cells (mk f) 121)).alloc (.cells (mk fun _=>false) 121)).heap[w.heap.size]? =some (.cells (mk f) 121 (0,0))):=((al (Below.refl _ _) (.cells (mk fun _=>false) 121):Below (w.alloc (.cells (mk f) 121)).heap.size (w.alloc (.cells (mk f) 121)) _).block _ (by simp)).trans (heap_alloc_new _ _);have B1:Hid (((w.alloc (.cells (mk f) 121)).alloc (.cells (mk fun _=>false) 121)).heap[w.heap.size+1]? =some (.cells (mk fun _=>false) 121 (0,0))):=by
  have:=heap_alloc_new (w.alloc (.cells (mk f) 121)) (.cells (mk fun _=>false) 121)
  rwa [show(w.alloc (.cells (mk f) 121)).heap.size=w.heap.size+1 by simp] at this
 have HZS:=qaa (qaq fun _=>false);obtain⟨a,ha⟩:∃a,Hid (a=mk f):=⟨_,rfl⟩;obtain⟨z,hz⟩:∃z,Hid (z=mk fun _=>false):=⟨_,rfl⟩;rw[←ha.out] at hs HXS B0 B1 ⊢;rw[←hz.out] at hzv HXS B0 B1 HZS;clear hat;go_enter Tryz.func71,Tryz.ntmps71;go_wp2;go_loopw [9] (fun x wr=>∃k:Nat,k≤D.length∧x=.int .i64 k∧Hid (wr.heap[w.heap.size]? =some (.cells (mk (clF (D.map PD.p) f k)) 121 (0,0)))∧Hid (wr.heap[w.heap.size+1]? =some (.cells z 121 (0,0)))∧Hid (Below w.heap.size w wr)) (fun x _=>D.length-(RowKit.intOf x).toNat)
 case atStart=>exact⟨0,Nat.zero_le _,rfl,by have h0:a=mk (clF (D.map PD.p) f 0):=ha.out;rw[←h0];exact B0,B1,HXS⟩
 case round=>
  obtain⟨k,hk,rfl,BA,BZ,X⟩:=hrel;rename World=>wr
  by_cases hlt:k<D.length
  ·have hlt':(k:Int)<(D.length:Int):=by omega
   have h65:(k:Int)<65:=by omega
   have h66:(k:Int)+1<65:=by omega
   rcases HAT.out with h|⟨b,off,rfl,hb,hc⟩
   ·rw[h] at hlt;simp at hlt
   obtain⟨p0,p1,p2,p3,_⟩:=hc k hlt;have hbw:b<wr.heap.size:=Nat.lt_of_lt_of_le hb X.out.size;have r0:=(X.out.cell (p:=⟨b,off+k*4,none⟩) hb).trans p0;have r1:=(X.out.cell (p:=⟨b,off+k*4+1,none⟩) hb).trans p1;have r2:=(X.out.cell (p:=⟨b,off+k*4+2,none⟩) hb).trans p2;have r3:=(X.out.cell (p:=⟨b,off+k*4+3,none⟩) hb).trans p3;have HY:=qaa (fun h1 h2=>qjk (D:=D) (f:=f) (k:=k) hlt h1 h2);have HN:=qaa (fun h1=>qme (D:=D) (f:=f) (k:=k) hlt h1);have HMN:=qaa (fun w=>qe3 D[k].p.kind D[k].p.b D[k].p.no D[k].so D[k].p.set.length D[k].sc w);generalize D[k].p.kind=kd at *;generalize D[k].p.b=kb at *;generalize D[k].p.no=kn at *;generalize D[k].p.set.length=kl at *;generalize D[k].so=ks at *;generalize D[k].sc=kc at *;have X4:=qaa (al (Below.refl wr.heap.size wr) (.cells #[.int .i64 kd,.int .i64 kb,.bool kn,.slice ks kl kc] 96));have BA4:=qaa ((X4.out.block _ (lt_of_block BA.out)).trans BA.out);have c0:(wr.alloc (.cells #[.int .i64 kd,.int .i64 kb,.bool kn,.slice ks kl kc] 96)).cell? ⟨w.heap.size,k,none⟩=some (.bool (clF (D.map PD.p) f k k)):=by rw[cell_of_row _ _ _ _ _ _ BA4.out];exact qb8 _ _ (by omega)
   clear hc p0 p1 p2 p3;cases hf:clF (D.map PD.p) f k k with
   |false=>
    have HE:=qaa (HN.out (by rw[hf,Bool.false_and]));rw[hf] at c0;go_wp2;go_roundw
    case rel=>exact⟨k+1,by omega,by go_num,by unfold Hid;rw[HE.out];exact BA4.out,(X4.out.block _ (lt_of_block BZ.out)).trans BZ.out,bt X.out X4.out (Nat.le_refl _)⟩
    case measure=>simp[RowKit.intOf];omega
   |true=>
    rw[hf] at c0;cases hm:qa8 kd with
    |false=>
     have HE:=qaa (HN.out (by rw[hm,Bool.and_false]));rw[hm] at HMN;go_wp2_with (go_at_call 103;refine(HMN.out _).mono ?_;rintro e w5 ⟨rfl,x5⟩;have X5:=qaa (bt X4.out x5 (Nat.le_refl _));clear x5);go_roundw
     case rel=>exact⟨k+1,by omega,by go_num,by unfold Hid;rw[HE.out];exact(X5.out.block _ (lt_of_block BA.out)).trans BA.out,(X5.out.block _ (lt_of_block BZ.out)).trans BZ.out,bt X.out X5.out (Nat.le_refl _)⟩
     case measure=>simp[RowKit.intOf];omega
    |true=>
     have HE:=qaa (HY.out hf hm);rw[hm] at HMN;go_wp2_with (go_at_call 103;refine(HMN.out _).mono ?_;rintro e w5 ⟨rfl,x5⟩;have X5:=qaa (bt X4.out x5 (Nat.le_refl _));have BA5:=qaa ((X5.out.block _ (lt_of_block BA.out)).trans BA.out);have d1:w5.cell? ⟨w.heap.size,k+1,none⟩=some (.bool (clF (D.map PD.p) f k (k+1))):=(by rw[cell_of_row _ _ _ _ _ _ BA5.out];exact qb8 _ _ (by omega));have g1:=frozen_of_row _ _ (k+1) _ _ BA5.out;clear x5);go_roundw
     case rel=>
      have hk6:Kept (fun i=>i=w.heap.size) w5 (w5.setCell ⟨w.heap.size,k+1,none⟩ (.bool true)):=Kept.setCell (F:=fun i=>i=w.heap.size) (p:=⟨w.heap.size,k+1,none⟩) (Kept.refl _ _) rfl _;have B5Z:=(X5.out.block _ (lt_of_block BZ.out)).trans BZ.out;refine⟨k+1,by omega,by go_num,?_,(hk6.block _ (lt_of_block B5Z) (by omega)).trans B5Z,?_⟩
      ·unfold Hid
       rw[HE.out,←qfs];exact block_setCell BA5.out (k+1) _
      ·exact(bt X.out X5.out (Nat.le_refl _)).trans (hk6.below (Nat.le_trans X.out.size X5.out.size) (fun i hi=>by omega))
     case measure=>simp[RowKit.intOf];omega
  ·have hnl:¬(k:Int)<(D.length:Int):=by omega
   have hkl:k=D.length:=by omega
   subst hkl;have HI:Hid ((Tryz.prog.info? 121).map (·.size)=some (mk (clF (D.map PD.p) f D.length)).size):=by unfold Hid;rw[hsz,qaq]
   have HZ2:Hid (z.size=(mk (clF (D.map PD.p) f D.length)).size):=by unfold Hid;rw[HZS.out,qaq]
   have HAL:=qaa (qcy (clF (D.map PD.p) f D.length));have HBN:=qaa (setRow_heap wr (w.heap.size+1) z (mk (clF (D.map PD.p) f D.length)) 121 (0,0) BZ.out);have HXN:=qaa (below_setRow X.out (Nat.le_succ _) (mk (clF (D.map PD.p) f D.length)));clear hzv hsz hs;obtain⟨m,hm⟩:∃m,Hid (m=mk (clF (D.map PD.p) f D.length)):=⟨_,rfl⟩;rw[←hm.out] at HI HZ2 HAL HBN HXN BA;go_wp2_with (first
    |(refine wpList_load_row rfl 121 (.tmp 3) rfl w.heap.size rfl 121 m (0,0) _ BA.out Tryz.underlying121 rfl HI.out ?_)
    |(refine wpList_store_row rfl 121 (.tmp 4) (.tmp 25) rfl (w.heap.size+1) m rfl rfl 121 z BZ.out HI.out HZ2.out HAL.out ?_))
   refine bodyPost_ret (v:=.agg m) (results_cell_row rfl _ _ (w.heap.size+1) 121 m (0,0) _ rfl HBN.out Tryz.underlying121 rfl HI.out) rfl ?_;exact⟨by rw[hm.out],HXN.out⟩
def RS (L:List Spn):Prop:=qcu L∧L≠[]∧∀s∈L,32≤s.1∧s.2≤126
theorem qg6 {L:List Spn} (h:qcu L) {x:Int} (hx:x≤(L.getD 0 (0,0)).1):∀s∈L,x≤s.1:=by
 cases L with
 |nil=>intro s hs;cases hs
 |cons t L=>
  intro s hs;simp only[List.getD_cons_zero] at hx;rcases List.mem_cons.1 hs with rfl|hs
  ·exact hx
  ·have h1:=(List.pairwise_cons.1 h.2).1 s hs
   have h2:=h.head;unfold Bnd at h2;omega
theorem qih {L:List Spn} (h:qcu L) {x:Int} (hx:(L.getD (L.length-1) (0,0)).2≤x):∀s∈L,s.2≤x:=by
 intro s hs;obtain⟨i,hi,rfl⟩:=List.getElem_of_mem hs;rw[List.getD_eq_getElem?_getD,List.getElem?_eq_getElem (by omega)] at hx;simp only[Option.getD_some] at hx;by_cases he:i=L.length-1
 ·subst he;exact hx
 ·have h1:=(List.pairwise_iff_getElem.1 h.2) i (L.length-1) hi (by omega) (by omega)
  have h2:=h.1 _ (List.getElem_mem (show L.length-1<L.length by omega));unfold Bnd at h2;omega
theorem qoc {L:List Spn} (h:qcu L) (h0:0<L.length):RS L↔32≤(L.getD 0 (0,0)).1∧(L.getD (L.length-1) (0,0)).2≤126:=by
 constructor
 ·intro⟨_,_,h3⟩
  have a1:=(h3 _ (List.getElem_mem h0)).1;have a2:=(h3 _ (List.getElem_mem (show L.length-1<L.length by omega))).2;rw[List.getD_eq_getElem?_getD,List.getElem?_eq_getElem h0,List.getD_eq_getElem?_getD,List.getElem?_eq_getElem (show L.length-1<L.length by omega)];exact⟨a1,a2⟩
 ·intro⟨h1,h2⟩
  exact⟨h,fun e=>by rw[e] at h0;exact absurd h0 (Nat.lt_irrefl _),fun s hs=>⟨qg6 h h1 s hs,qih h h2 s hs⟩⟩
def qg7 (p:Prop) (e:Ending):Prop:=(p∧e=.returned (.bool true))∨(¬p∧e=.returned (.bool false))
theorem qg7.yes {p:Prop} (h:p) {e:Ending} (he:e=.returned (.bool true)):qg7 p e:=.inl ⟨h,he⟩
theorem qg7.no {p:Prop} (h:¬p) {e:Ending} (he:e=.returned (.bool false)):qg7 p e:=.inr ⟨h,he⟩
set_option maxRecDepth 100000 in
set_option maxHeartbeats 2000000 in
theorem qft (so:Option Addr) (cap:Nat) (L:List Spn) (w:World) (hl:L.length≤140737488351232) (hat:qge w so L):
 Calls Tryz.prog 131 #[.slice so L.length cap] w fun e w'=>qg7 (RS L) e∧Below w.heap.size w w':=by
 have hr:=qfd so cap L w hl hat;by_cases hs:qcu L
 ·rw[decide_eq_true hs] at hr
  by_cases h0:0<L.length
  ·obtain⟨b,off,rfl,hb,hc⟩:=hat.get h0
   have c0:=(hc 0 h0).1;have c1:=(hc (L.length-1) (by omega)).2;simp only[Nat.zero_mul,Nat.add_zero] at c0;have hRS:=qoc hs h0;have h0':(0:Int)<(L.length:Int):=by omega
   have hw:IntKind.i64.wrap ((L.length:Int)-1)=((L.length-1:Nat):Int):=by simp[IntKind.wrap,IntKind.bits,IntKind.signed];omega
   have hlt:((L.length-1:Nat):Int)<(L.length:Int):=by omega
   have HR:=qaa hr;obtain⟨n1,hn1⟩:∃n1,Hid (n1=L.length-1):=⟨_,rfl⟩;rw[←hn1.out] at c1 hRS hw hlt;have HRS:=qaa hRS;generalize (L.getD 0 (0,0)).1=x at *;generalize (L.getD n1 (0,0)).2=y at *;clear hr hc hat hRS;by_cases h32:(32:Int)≤x
   ·by_cases h126:y≤126
    ·have HY:Hid (RS L):=HRS.out.2 ⟨h32,h126⟩
     go_enter Tryz.func131,Tryz.ntmps131;go_wp2_with (go_at_call 132;refine HR.out.mono ?_;rintro e w2 ⟨rfl,x2⟩;have X2:=qaa x2;have d0:=(x2.cell (p:=⟨b,off,none⟩) hb).trans c0;have d1:=(x2.cell (p:=⟨b,off+n1*2+1,none⟩) hb).trans c1;clear x2);go_ret;exact⟨.yes HY.out rfl,X2.out⟩
    ·have HN:Hid (¬RS L):=fun h=>h126 (HRS.out.1 h).2
     go_enter Tryz.func131,Tryz.ntmps131;go_wp2_with (go_at_call 132;refine HR.out.mono ?_;rintro e w2 ⟨rfl,x2⟩;have X2:=qaa x2;have d0:=(x2.cell (p:=⟨b,off,none⟩) hb).trans c0;have d1:=(x2.cell (p:=⟨b,off+n1*2+1,none⟩) hb).trans c1;clear x2);go_ret;exact⟨.no HN.out (show Ending.returned (Value.bool (decide (y≤126)))=_ by rw[decide_eq_false (by omega)]),X2.out⟩
   ·have HN:Hid (¬RS L):=fun h=>h32 (HRS.out.1 h).1
    go_enter Tryz.func131,Tryz.ntmps131;go_wp2_with (go_at_call 132;refine HR.out.mono ?_;rintro e w2 ⟨rfl,x2⟩;have X2:=qaa x2;have d0:=(x2.cell (p:=⟨b,off,none⟩) hb).trans c0;have d1:=(x2.cell (p:=⟨b,off+n1*2+1,none⟩) hb).trans c1;clear x2);go_ret;exact⟨.no HN.out rfl,X2.out⟩
  ·have hn:¬(0:Int)<(L.length:Int):=by omega
   have HN:Hid (¬RS L):=fun h=>h.2.1 (List.eq_nil_of_length_eq_zero (by omega))
   clear hat;go_enter Tryz.func131,Tryz.ntmps131;go_wp2_with (go_at_call 132;refine hr.mono ?_;rintro e w2 ⟨rfl,x2⟩;have X2:=qaa x2;clear x2);go_ret;exact⟨.no HN.out rfl,X2.out⟩
 ·rw[decide_eq_false hs] at hr
  have HN:Hid (¬RS L):=fun h=>hs h.1
  clear hat;go_enter Tryz.func131,Tryz.ntmps131;go_wp2_with (go_at_call 132;refine hr.mono ?_;rintro e w2 ⟨rfl,x2⟩;have X2:=qaa x2;clear x2);go_ret;exact⟨.no HN.out rfl,X2.out⟩
theorem qfu {b:Int} {no:Bool} {S:List Spn}:Rp ⟨1,b,no,S⟩↔32≤b∧b≤126∧no=false∧S=[]:=by
 unfold Rp;constructor
 ·intro h
  rcases h with h|h|h
  ·exact h.2
  ·rcases h.1 with h|h|h
   ·exact absurd (show(1:Int)=2 from h) (by decide)
   ·exact absurd (show(1:Int)=4 from h) (by decide)
   ·exact absurd (show(1:Int)=5 from h) (by decide)
  ·exact absurd (show(1:Int)=3 from h.1) (by decide)
 ·exact fun h=>.inl ⟨rfl,h⟩
theorem qbj {k b:Int} {no:Bool} {S:List Spn} (hk:k=2∨k=4∨k=5):Rp ⟨k,b,no,S⟩↔b=0∧no=false∧S=[]:=by
 unfold Rp;constructor
 ·intro h
  rcases h with h|h|h
  ·have h1:k=1:=h.1
   omega
  ·exact h.2
  ·have h1:k=3:=h.1
   omega
 ·exact fun h=>.inr (.inl ⟨hk,h⟩)
theorem qjl {b:Int} {no:Bool} {S:List Spn}:Rp ⟨3,b,no,S⟩↔b=0∧RS S:=by
 unfold Rp;constructor
 ·intro h
  rcases h with h|h|h
  ·exact absurd (show(3:Int)=1 from h.1) (by decide)
  ·rcases h.1 with h|h|h
   ·exact absurd (show(3:Int)=2 from h) (by decide)
   ·exact absurd (show(3:Int)=4 from h) (by decide)
   ·exact absurd (show(3:Int)=5 from h) (by decide)
  ·exact⟨h.2.1,h.2.2⟩
 ·exact fun h=>.inr (.inr ⟨rfl,h.1,h.2⟩)
theorem qlj {k b:Int} {no:Bool} {S:List Spn} (h1:¬k=1) (h2:¬k=2) (h3:¬k=3) (h4:¬k=4) (h5:¬k=5):¬Rp ⟨k,b,no,S⟩:=by
 unfold Rp;intro h;rcases h with h|h|h
 ·exact h1 h.1
 ·rcases h.1 with h|h|h
  ·exact h2 h
  ·exact h4 h
  ·exact h5 h
 ·exact h3 h.1
set_option maxRecDepth 100000 in
set_option maxHeartbeats 4000000 in
theorem qed (kd kb:Int) (kn:Bool) (ks:Option Addr) (kc:Nat) (S:List Spn) (w:World) (hl:S.length≤140737488351232) (hat:qge w ks S):
 Calls Tryz.prog 102 #[.agg #[.int .i64 kd,.int .i64 kb,.bool kn,.slice ks S.length kc]] w fun e w'=>qg7 (Rp ⟨kd,kb,kn,S⟩) e∧Below w.heap.size w w':=by
 by_cases h1:kd=1
 ·subst h1
  clear hat;by_cases a1:(32:Int)≤kb
  ·by_cases a2:kb≤126
   ·cases kn with
    |true=>
     have HN:Hid (¬Rp ⟨1,kb,true,S⟩):=fun h=>by have:=(qfu.1 h).2.2.1;cases this
     go_enter Tryz.func102,Tryz.ntmps102;go_wp2;go_ret;exact⟨.no HN.out rfl,al (Below.refl _ _) _⟩
    |false=>
     by_cases a4:S=[]
     ·have HY:Hid (Rp ⟨1,kb,false,S⟩):=qfu.2 ⟨a1,a2,rfl,a4⟩
      subst a4;simp only[List.length_nil];go_enter Tryz.func102,Tryz.ntmps102;go_wp2;go_ret;exact⟨.yes HY.out rfl,al (Below.refl _ _) _⟩
     ·have HN:Hid (¬Rp ⟨1,kb,false,S⟩):=fun h=>a4 (qfu.1 h).2.2.2
      have a5:¬((S.length:Nat):Int)=0:=fun h=>a4 (List.eq_nil_of_length_eq_zero (by omega))
      go_enter Tryz.func102,Tryz.ntmps102;go_wp2;go_ret;exact⟨.no HN.out (show Ending.returned (Value.bool (((S.length:Nat):Int)==0))=_ by rw[beq_eq_false_iff_ne.2 a5]),al (Below.refl _ _) _⟩
   ·have HN:Hid (¬Rp ⟨1,kb,kn,S⟩):=fun h=>a2 (qfu.1 h).2.1
    go_enter Tryz.func102,Tryz.ntmps102;go_wp2;go_ret;exact⟨.no HN.out rfl,al (Below.refl _ _) _⟩
  ·have HN:Hid (¬Rp ⟨1,kb,kn,S⟩):=fun h=>a1 (qfu.1 h).1
   go_enter Tryz.func102,Tryz.ntmps102;go_wp2;go_ret;exact⟨.no HN.out rfl,al (Below.refl _ _) _⟩
 ·by_cases h2:kd=2
  ·subst h2
   clear hat;by_cases a1:kb=0
   ·subst a1
    cases kn with
    |true=>
     have HN:Hid (¬Rp ⟨2,0,true,S⟩):=fun h=>by have:=((qbj (by decide)).1 h).2.1;cases this
     go_enter Tryz.func102,Tryz.ntmps102;go_wp2;go_ret;exact⟨.no HN.out rfl,al (Below.refl _ _) _⟩
    |false=>
     by_cases a4:S=[]
     ·have HY:Hid (Rp ⟨2,0,false,S⟩):=(qbj (by decide)).2 ⟨rfl,rfl,a4⟩
      subst a4;simp only[List.length_nil];go_enter Tryz.func102,Tryz.ntmps102;go_wp2;go_ret;exact⟨.yes HY.out rfl,al (Below.refl _ _) _⟩
     ·have HN:Hid (¬Rp ⟨2,0,false,S⟩):=fun h=>a4 ((qbj (by decide)).1 h).2.2
      have a5:¬((S.length:Nat):Int)=0:=fun h=>a4 (List.eq_nil_of_length_eq_zero (by omega))
      go_enter Tryz.func102,Tryz.ntmps102;go_wp2;go_ret;exact⟨.no HN.out (show Ending.returned (Value.bool (((S.length:Nat):Int)==0))=_ by rw[beq_eq_false_iff_ne.2 a5]),al (Below.refl _ _) _⟩
   ·have HN:Hid (¬Rp ⟨2,kb,kn,S⟩):=fun h=>a1 ((qbj (by decide)).1 h).1
    go_enter Tryz.func102,Tryz.ntmps102;go_wp2;go_ret;exact⟨.no HN.out rfl,al (Below.refl _ _) _⟩
  ·by_cases h4:kd=4
   ·subst h4
    clear hat;by_cases a1:kb=0
    ·subst a1
     cases kn with
     |true=>
      have HN:Hid (¬Rp ⟨4,0,true,S⟩):=fun h=>by have:=((qbj (by decide)).1 h).2.1;cases this
      go_enter Tryz.func102,Tryz.ntmps102;go_wp2;go_ret;exact⟨.no HN.out rfl,al (Below.refl _ _) _⟩
     |false=>
      by_cases a4:S=[]
      ·have HY:Hid (Rp ⟨4,0,false,S⟩):=(qbj (by decide)).2 ⟨rfl,rfl,a4⟩
       subst a4;simp only[List.length_nil];go_enter Tryz.func102,Tryz.ntmps102;go_wp2;go_ret;exact⟨.yes HY.out rfl,al (Below.refl _ _) _⟩
      ·have HN:Hid (¬Rp ⟨4,0,false,S⟩):=fun h=>a4 ((qbj (by decide)).1 h).2.2
       have a5:¬((S.length:Nat):Int)=0:=fun h=>a4 (List.eq_nil_of_length_eq_zero (by omega))
       go_enter Tryz.func102,Tryz.ntmps102;go_wp2;go_ret;exact⟨.no HN.out (show Ending.returned (Value.bool (((S.length:Nat):Int)==0))=_ by rw[beq_eq_false_iff_ne.2 a5]),al (Below.refl _ _) _⟩
    ·have HN:Hid (¬Rp ⟨4,kb,kn,S⟩):=fun h=>a1 ((qbj (by decide)).1 h).1
     go_enter Tryz.func102,Tryz.ntmps102;go_wp2;go_ret;exact⟨.no HN.out rfl,al (Below.refl _ _) _⟩
   ·by_cases h5:kd=5
    ·subst h5
     clear hat;by_cases a1:kb=0
     ·subst a1
      cases kn with
      |true=>
       have HN:Hid (¬Rp ⟨5,0,true,S⟩):=fun h=>by have:=((qbj (by decide)).1 h).2.1;cases this
       go_enter Tryz.func102,Tryz.ntmps102;go_wp2;go_ret;exact⟨.no HN.out rfl,al (Below.refl _ _) _⟩
      |false=>
       by_cases a4:S=[]
       ·have HY:Hid (Rp ⟨5,0,false,S⟩):=(qbj (by decide)).2 ⟨rfl,rfl,a4⟩
        subst a4;simp only[List.length_nil];go_enter Tryz.func102,Tryz.ntmps102;go_wp2;go_ret;exact⟨.yes HY.out rfl,al (Below.refl _ _) _⟩
       ·have HN:Hid (¬Rp ⟨5,0,false,S⟩):=fun h=>a4 ((qbj (by decide)).1 h).2.2
        have a5:¬((S.length:Nat):Int)=0:=fun h=>a4 (List.eq_nil_of_length_eq_zero (by omega))
        go_enter Tryz.func102,Tryz.ntmps102;go_wp2;go_ret;exact⟨.no HN.out (show Ending.returned (Value.bool (((S.length:Nat):Int)==0))=_ by rw[beq_eq_false_iff_ne.2 a5]),al (Below.refl _ _) _⟩
     ·have HN:Hid (¬Rp ⟨5,kb,kn,S⟩):=fun h=>a1 ((qbj (by decide)).1 h).1
      go_enter Tryz.func102,Tryz.ntmps102;go_wp2;go_ret;exact⟨.no HN.out rfl,al (Below.refl _ _) _⟩
    ·by_cases h3:kd=3
     ·subst h3
      by_cases a1:kb=0
      ·subst a1
       have HS:=qaa (fun W (x:Below w.heap.size w W)=>qft ks kc S W hl (hat.below x));have X1:=qaa (al (Below.refl w.heap.size w) (.cells #[.int .i64 3,.int .i64 0,.bool kn,.slice ks S.length kc] 96));clear hat;go_enter Tryz.func102,Tryz.ntmps102;go_wp2_with (fail);refine(HS.out _ X1.out).mono ?_;rintro e w2 ⟨h2,x2⟩;have X2:=qaa (bt X1.out x2 (Nat.le_refl _));clear x2;rcases h2 with⟨hp,rfl⟩|⟨hp,rfl⟩
       ·have HY:Hid (Rp ⟨3,0,kn,S⟩):=qjl.2 ⟨rfl,hp⟩
        clear hp;go_wp2;go_ret;exact⟨.yes HY.out rfl,X2.out⟩
       ·have HN:Hid (¬Rp ⟨3,0,kn,S⟩):=fun h=>hp (qjl.1 h).2
        clear hp;go_wp2;go_ret;exact⟨.no HN.out rfl,X2.out⟩
      ·have HN:Hid (¬Rp ⟨3,kb,kn,S⟩):=fun h=>a1 (qjl.1 h).1
       clear hat;go_enter Tryz.func102,Tryz.ntmps102;go_wp2;go_ret;exact⟨.no HN.out rfl,al (Below.refl _ _) _⟩
     ·have HN:Hid (¬Rp ⟨kd,kb,kn,S⟩):=qlj h1 h2 h3 h4 h5
      clear hat;go_enter Tryz.func102,Tryz.ntmps102;go_wp2;go_ret;exact⟨.no HN.out rfl,al (Below.refl _ _) _⟩
def zPc:Pc:=⟨0,0,false,[]⟩
def Rt (L:List Pc):Prop:=L.length≤64∧(∀p∈L,Rp p)∧∀i,i+1<L.length→¬((L.getD i zPc).kind=4∧qa8 (L.getD (i+1) zPc).kind=true)
theorem qcl (D:List PD) (k:Nat) (h:k<D.length):((D.map PD.p).getD k zPc)=D[k].p:=by simp[List.getD_eq_getElem?_getD,h]
theorem qpi {D:List PD} (h1:D.length≤64) (h2:∀k (h:k<D.length),Rp D[k].p) (h3:∀i (h:i+1<D.length),¬(D[i].p.kind=4∧qa8 D[i+1].p.kind=true)):Rt (D.map PD.p):=by
 refine⟨by simpa using h1,fun p hp=>?_,fun i hi=>?_⟩
 ·obtain⟨d,hd,rfl⟩:=List.mem_map.1 hp
  obtain⟨i,hi,rfl⟩:=List.getElem_of_mem hd;exact h2 i hi
 ·rw[List.length_map] at hi
  rw[qcl D i (by omega),qcl D (i+1) hi];exact h3 i hi
theorem qpj {D:List PD} (h:Rt (D.map PD.p)) (k:Nat) (hk:k<D.length):Rp D[k].p:=h.2.1 _ (List.mem_map.2 ⟨_,List.getElem_mem hk,rfl⟩)
theorem qod {D:List PD} (h:Rt (D.map PD.p)) (i:Nat) (hi:i+1<D.length):¬(D[i].p.kind=4∧qa8 D[i+1].p.kind=true):=by
 have:=h.2.2 i (by rwa [List.length_map])
 rwa [qcl D i (by omega),qcl D (i+1) hi] at this
structure RtS (D:List PD) (k:Nat):Prop where
 rp:∀j (h:j<D.length),j<k→Rp D[j].p
 adj:∀i (h:i+1<D.length),i+1<k→¬(D[i].p.kind=4∧qa8 D[i+1].p.kind=true)
theorem RtS.zero (D:List PD):RtS D 0:=⟨fun _ _ h=>absurd h (Nat.not_lt_zero _),fun _ _ h=>absurd h (Nat.not_lt_zero _)⟩
theorem RtS.next {D:List PD} {k:Nat} (h:RtS D k) (hk:k<D.length) (hp:Rp D[k].p) (ha:∀j (hj:j+1=k),¬((D[j]'(by omega)).p.kind=4∧qa8 D[k].p.kind=true)):RtS D (k+1):=by
 refine⟨fun j hj hlt=>?_,fun i hi hlt=>?_⟩
 ·rcases Nat.lt_or_ge j k with h1|h1
  ·exact h.rp j hj h1
  ·obtain rfl:j=k:=by omega
   exact hp
 ·rcases Nat.lt_or_ge (i+1) k with h1|h1
  ·exact h.adj i hi h1
  ·obtain rfl:i+1=k:=by omega
   exact ha i rfl
set_option maxRecDepth 100000 in
set_option maxHeartbeats 4000000 in
theorem qii (ao:Option Addr) (cap:Nat) (D:List PD) (w:World) (hLen:∀d∈D,d.p.set.length≤140737488351232) (hat:qe2 w ao D):
 Calls Tryz.prog 69 #[.slice ao D.length cap] w fun e w'=>qg7 (Rt (D.map PD.p)) e∧Below w.heap.size w w':=by
 have HAT:=qaa hat;have HLEN:=qaa hLen;clear hat hLen;by_cases hl:D.length≤64
 ·have hl':¬(64:Int)<(D.length:Int):=by omega
  go_enter Tryz.func69,Tryz.ntmps69;go_wp2;go_loopw [10] (fun x wr=>∃k:Nat,k≤D.length∧x=.int .i64 k∧Hid (RtS D k)∧Hid (Below w.heap.size w wr)) (fun x _=>D.length-(RowKit.intOf x).toNat)
  case atStart=>exact⟨0,Nat.zero_le _,rfl,RtS.zero D,Below.refl _ _⟩
  case round=>
   obtain⟨k,hk,rfl,S,X⟩:=hrel;rename World=>wr
   by_cases hlt:k<D.length
   ·have hlt':(k:Int)<(D.length:Int):=by omega
    rcases HAT.out with h|⟨pb,off,rfl,hb,hc⟩
    ·rw[h] at hlt;simp at hlt
    obtain⟨p0,p1,p2,p3,p4⟩:=hc k hlt;have hbw:pb<wr.heap.size:=Nat.lt_of_lt_of_le hb X.out.size;have r0:=(X.out.cell (p:=⟨pb,off+k*4,none⟩) hb).trans p0;have r1:=(X.out.cell (p:=⟨pb,off+k*4+1,none⟩) hb).trans p1;have r2:=(X.out.cell (p:=⟨pb,off+k*4+2,none⟩) hb).trans p2;have r3:=(X.out.cell (p:=⟨pb,off+k*4+3,none⟩) hb).trans p3;have P4:=qaa (p4.below X.out);have HPL:=qaa (HLEN.out _ (List.getElem_mem hlt));have HNX:=qaa (fun hp ha=>S.out.next hlt hp ha);have HNR:Hid (¬Rp D[k].p→¬Rt (D.map PD.p)):=fun h1 h2=>h1 (qpj h2 k hlt)
    have HNA:Hid (∀j (hj:j+1=k),(D[j]'(by omega)).p.kind=4→qa8 D[k].p.kind=true→¬Rt (D.map PD.p)):=fun j hj h1 h2 h3=>by
     subst hj;exact qod h3 j hlt ⟨h1,h2⟩
    have HCJ:Hid (∀j (hj:j+1=k) W,Below wr.heap.size wr W→W.cell? ⟨pb,off+j*4,none⟩=some (.int .i64 (D[j]'(by omega)).p.kind)):=fun j hj W x=>(x.cell (p:=⟨pb,off+j*4,none⟩) hbw).trans ((X.out.cell (p:=⟨pb,off+j*4,none⟩) hb).trans (hc j (by omega)).1)
    have HRP:=qaa (fun W (x:Below wr.heap.size wr W)=>qed D[k].p.kind D[k].p.b D[k].p.no D[k].so D[k].sc D[k].p.set W HPL.out (P4.out.below x));have HMN:=qaa (fun w=>qe3 D[k].p.kind D[k].p.b D[k].p.no D[k].so D[k].p.set.length D[k].sc w);have HEP:Hid ((⟨D[k].p.kind,D[k].p.b,D[k].p.no,D[k].p.set⟩:Pc)=D[k].p):=rfl;generalize D[k].p=q at *;generalize D[k].so=ks at *;generalize D[k].sc=kc at *;have X4:=qaa (al (Below.refl wr.heap.size wr) (.cells #[.int .i64 q.kind,.int .i64 q.b,.bool q.no,.slice ks q.set.length kc] 96));have B4:=qaa (heap_alloc_new wr (.cells #[.int .i64 q.kind,.int .i64 q.b,.bool q.no,.slice ks q.set.length kc] 96));clear hc p0 p1 p2 p3 p4;go_wp2_with (fail);refine(HRP.out _ X4.out).mono ?_;rintro e w5 ⟨h5,x5⟩;have X5:=qaa (bt X4.out x5 (Nat.le_refl _));have B5:=qaa ((x5.block _ (lt_of_block B4.out)).trans B4.out);have XW:=qaa (bt X.out X5.out (Nat.le_refl _));clear x5 r0 r1 r2 r3;rcases h5 with⟨hp,rfl⟩|⟨hp,rfl⟩
    ·have HP:=qaa hp
     clear hp;by_cases hk0:k=0
     ·subst hk0
      have S6:=qaa (HNX.out HP.out (fun j hj=>by omega));go_wp2;go_roundw
      case rel=>exact⟨1,by omega,by go_num,S6,XW⟩
      case measure=>simp[RowKit.intOf];omega
     ·obtain⟨j,hj⟩:∃j,j+1=k:=⟨k-1,by omega⟩
      have hk1:(0:Int)<(k:Int):=by omega
      have hw1:(k:Int)-1=(j:Int):=by omega
      have hjl:(j:Int)<(D.length:Int):=by omega
      have cj:=HCJ.out j hj w5 X5.out;have HJ:=qaa hj;have HNA':=qaa (HNA.out j hj);have HNX':Hid (¬((D[j]'(by omega)).p.kind=4∧qa8 q.kind=true)→RtS D (k+1)):=fun h=>HNX.out HP.out (fun j' hj'=>by
       obtain rfl:j'=j:=by omega
       exact h)
      obtain⟨d0,d1,d2,d3⟩:=qhn B5.out;generalize (D[j]'(by omega)).p.kind=jk at cj HNA' HNX';clear hj HNX HCJ HNA;by_cases h4:jk=4
      ·subst h4
       cases hm:qa8 q.kind with
       |true=>
        have HF:=qaa (HNA'.out rfl hm);rw[hm] at HMN;go_wp2_with (go_at_call 103;refine(HMN.out _).mono ?_;rintro e w6 ⟨rfl,x6⟩;have X6:=qaa (bt XW.out x6 (Nat.le_refl _));clear x6);go_ret;exact⟨.no HF.out rfl,X6.out⟩
       |false=>
        have S6:=qaa (HNX'.out (fun h=>by rw[hm] at h;exact absurd h.2 (by decide)));rw[hm] at HMN;go_wp2_with (go_at_call 103;refine(HMN.out _).mono ?_;rintro e w6 ⟨rfl,x6⟩;have X6:=qaa (bt XW.out x6 (Nat.le_refl _));clear x6);go_roundw
        case rel=>exact⟨k+1,by omega,by go_num,S6,X6⟩
        case measure=>simp[RowKit.intOf];omega
      ·have S6:=qaa (HNX'.out (fun h=>h4 h.1))
       go_wp2;go_roundw
       case rel=>exact⟨k+1,by omega,by go_num,S6,XW⟩
       case measure=>simp[RowKit.intOf];omega
    ·have HF:=qaa (HNR.out hp)
     clear hp;go_wp2;go_ret;exact⟨.no HF.out rfl,XW.out⟩
   ·have hnl:¬(k:Int)<(D.length:Int):=by omega
    have HY:Hid (Rt (D.map PD.p)):=qpi hl (fun j hj=>S.out.rp j hj (by omega)) (fun i hi=>S.out.adj i hi (by omega));go_wp2;go_ret;exact⟨.yes HY.out rfl,X.out⟩
 ·have hl':(64:Int)<(D.length:Int):=by omega
  have HN:Hid (¬Rt (D.map PD.p)):=fun h=>hl (by simpa using h.1)
  go_enter Tryz.func69,Tryz.ntmps69;go_wp2;go_ret;exact⟨.no HN.out rfl,Below.refl _ _⟩
def tkB (p:Pc) (b:Int):Bool:=if p.kind=1 then decide (b=p.b) else if p.kind=2∨p.kind=4 then(b !=47) else if p.kind=3 then(b !=47)&&(qef b p.set !=p.no) else true
def pv (kd kb:Int) (kn:Bool) (ks:Option Addr) (kl kc:Nat):Value:=.agg #[.int .i64 kd,.int .i64 kb,.bool kn,.slice ks kl kc]
set_option maxRecDepth 100000 in
theorem qm5 (kd kb:Int) (kn:Bool) (ks:Option Addr) (kl kc:Nat) (b:Int) (w:World):Calls Tryz.prog 104 #[.agg #[.int .i64 kd,.int .i64 kb,.bool kn,.slice ks kl kc],.int .i64 b] w fun e w'=>e=.returned (.bool (decide (b=kb)))∧Below w.heap.size w w':=by
 go_enter Tryz.func104,Tryz.ntmps104;go_wp2;go_ret;exact⟨rfl,al (Below.refl _ _) _⟩
set_option maxRecDepth 100000 in
theorem qm6 (kd kb:Int) (kn:Bool) (ks:Option Addr) (kl kc:Nat) (b:Int) (w:World):Calls Tryz.prog 105 #[.agg #[.int .i64 kd,.int .i64 kb,.bool kn,.slice ks kl kc],.int .i64 b] w fun e w'=>e=.returned (.bool ((b !=47)))∧Below w.heap.size w w':=by
 go_enter Tryz.func105,Tryz.ntmps105;go_wp2;go_ret;exact⟨rfl,al (Below.refl _ _) _⟩
set_option maxRecDepth 100000 in
theorem qm7 (kd kb:Int) (kn:Bool) (ks:Option Addr) (kl kc:Nat) (b:Int) (w:World):Calls Tryz.prog 108 #[.agg #[.int .i64 kd,.int .i64 kb,.bool kn,.slice ks kl kc],.int .i64 b] w fun e w'=>e=.returned (.bool ((b !=47)))∧Below w.heap.size w w':=by
 go_enter Tryz.func108,Tryz.ntmps108;go_wp2;go_ret;exact⟨rfl,al (Below.refl _ _) _⟩
set_option maxRecDepth 100000 in
theorem qm8 (kd kb:Int) (kn:Bool) (ks:Option Addr) (kl kc:Nat) (b:Int) (w:World):Calls Tryz.prog 109 #[.agg #[.int .i64 kd,.int .i64 kb,.bool kn,.slice ks kl kc],.int .i64 b] w fun e w'=>e=.returned (.bool true)∧Below w.heap.size w w':=by
 go_enter Tryz.func109,Tryz.ntmps109;go_wp2;go_ret;exact⟨rfl,al (Below.refl _ _) _⟩
set_option maxRecDepth 100000 in
set_option maxHeartbeats 1000000 in
theorem qm9 (kd kb:Int) (kn:Bool) (ks:Option Addr) (kc:Nat) (L:List Spn) (b:Int) (w:World) (hl:L.length≤140737488351232) (hs:qcu L) (hat:qge w ks L):Calls Tryz.prog 106 #[.agg #[.int .i64 kd,.int .i64 kb,.bool kn,.slice ks L.length kc],.int .i64 b] w fun e w'=>e=.returned (.bool ((b !=47)&&(qef b L !=kn)))∧Below w.heap.size w w':=by
 have X1:=qaa (al (Below.refl w.heap.size w) (.cells #[.int .i64 kd,.int .i64 kb,.bool kn,.slice ks L.length kc] 96));have B1:=qaa (heap_alloc_new w (.cells #[.int .i64 kd,.int .i64 kb,.bool kn,.slice ks L.length kc] 96));obtain⟨c0,c1,c2,c3⟩:=qhn B1.out;by_cases hb:b=47
 ·have HE:Hid (((b !=47)&&(qef b L !=kn))=false):=by simp[Hid,hb]
  clear hat;go_enter Tryz.func106,Tryz.ntmps106;go_wp2;generalize w.alloc (.cells #[.int .i64 kd,.int .i64 kb,.bool kn,.slice ks L.length kc] 96)=W at *;go_quiet (fail);go_wp2;go_ret;exact⟨by rw[HE.out];rfl,X1.out.trans (below_drewN _ _ _)⟩
 ·have hbn:(b !=47)=true:=by simp[hb]
  have HE:Hid (((b !=47)&&(qef b L !=kn))=(qef b L !=kn)):=by unfold Hid;rw[hbn,Bool.true_and]
  have HH:Hid (∀W,Below w.heap.size w W→Calls Tryz.prog 107 #[.slice ks L.length kc,.int .i64 b] W fun e w'=>e=.returned (.bool (qef b L))∧Below W.heap.size W w'):=fun W x=>by
   have:=qmp ks kc L b W hl (hat.below x)
   rwa [show qmo L b=qef b L by simp[qmo,hs]] at this
  clear hat;go_enter Tryz.func106,Tryz.ntmps106;go_wp2;generalize w.alloc (.cells #[.int .i64 kd,.int .i64 kb,.bool kn,.slice ks L.length kc] 96)=W at *;have hWl:=lt_of_block B1.out;obtain⟨mb,HMB⟩:∃mb,Hid (mb=qef b L):=⟨_,rfl⟩;rw[←HMB.out] at HH;go_region_held3 (fun w'=>w'.cell? ⟨w.heap.size,2,none⟩=some (.bool kn)∧w'.cell? ⟨w.heap.size,3,none⟩=some (.slice ks L.length kc)) (first|assumption|(simp[go_sem, *];done))
   (first|(go_at_call 107;refine(HH.out _ (X1.out.trans ((Below.refl _ _).drew.mono X1.out.size))).mono ?_;rintro e w3 ⟨rfl,x3⟩;have y3:Below W.heap.size W w3:=(Below.refl _ _).drew.trans x3;have X3:=qaa y3;have g2:w3.cell? ⟨w.heap.size,2,none⟩=some (.bool kn):=(y3.cell (p:=⟨w.heap.size,2,none⟩) hWl).trans c2;have g3:w3.cell? ⟨w.heap.size,3,none⟩=some (.slice ks L.length kc):=(y3.cell (p:=⟨w.heap.size,3,none⟩) hWl).trans c3;clear x3 y3))
  go_wp2;go_ret;exact⟨by rw[HE.out,←HMB.out];rfl,bt X1.out X3.out (Nat.le_refl _)⟩
def qn1:Array Value:=#[.nilFunc,.func (.func 104) #[] #[],.func (.func 105) #[] #[],.func (.func 106) #[] #[],.func (.func 108) #[] #[],.func (.func 109) #[] #[]]
set_option maxRecDepth 100000 in
theorem qij (w:World):Calls Tryz.prog 70 #[] w fun e w'=>e=.returned (.slice (some ⟨w.heap.size,0,none⟩) 6 6)∧w'=w.alloc (.cells qn1 149):=by
 go_enter Tryz.func70,Tryz.ntmps70;go_wp2;go_ret;exact⟨rfl,rfl⟩
end Go.Proofs.YtdgoilkgplnhfaaGreat

