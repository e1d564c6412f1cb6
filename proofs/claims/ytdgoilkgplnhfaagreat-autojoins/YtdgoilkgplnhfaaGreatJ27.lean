/-
  takings by its contract: of each byte, which pieces take it. Condition: the pieces are right.
-/
import Derived.Deep.RegionWith
import Derived.Lib.ConvBytes
import Derived.Test.YtdgoilkgplnhfaaGreatJ26
import Derived.Deep.RegionHeld3
import Derived.Test.YtdgoilkgplnhfaaGreatJ14
namespace Go.Proofs.YtdgoilkgplnhfaaGreat
open Go.RowKit Go.Lib
def mkb (N:Nat) (F:Nat→Bool):Array Value:=((List.range N).map fun q=>Value.bool (F q)).toArray
theorem qe5 (N:Nat) (F:Nat→Bool):(mkb N F).size=N:=by unfold mkb;rw[List.size_toArray,List.length_map,List.length_range]
theorem qe6 (N:Nat) (F:Nat→Bool) (q:Nat) (h:q<N):(mkb N F)[q]? =some (.bool (F q)):=by
 unfold mkb;rw[List.getElem?_toArray,List.getElem?_map,List.getElem?_range h];rfl
theorem qjs (N:Nat) (F:Nat→Bool) (A:Array Value) (hs:A.size=N) (h:∀j,j<N→A[j]? =some (.bool (F j))):A=mkb N F:=by
 apply Array.ext
 ·rw[qe5,hs]
 ·intro j h1 h2
  have e3:=h j (by rw[←hs];exact h1);have e4:=qe6 N F j (by rw[←hs];exact h1);rw[Array.getElem?_eq_getElem h1] at e3;rw[Array.getElem?_eq_getElem h2] at e4;injection e3 with e3
  injection e4 with e4
  rw[e3,e4]
def qoh (F:Nat→Bool) (q:Nat) (b:Bool):Nat→Bool:=fun j=>if j=q then b else F j
theorem qne (N:Nat) (F:Nat→Bool) (q:Nat) (b:Bool):(mkb N F).set! q (.bool b)=mkb N (qoh F q b):=by
 refine qjs N _ _ (by simp[qe5]) (fun j hj=>?_);rw[Array.set!_eq_setIfInBounds,Array.getElem?_setIfInBounds,qe5];unfold qoh;by_cases e:q=j
 ·subst e;simp[hj]
 ·rw[if_neg e,if_neg (fun h=>e h.symm),qe6 N F j hj]
theorem qlm (N:Nat):madeCells (Value.agg (Array.replicate 64 (Value.bool false))).cells N=mkb N fun _=>false:=by
 refine qjs N _ _ (by simp[madeCells]) (fun j hj=>?_);have:j%64<64:=Nat.mod_lt _ (by decide);simp[madeCells,Value.cells,this,hj]
def tq (L:List Pc) (b i q:Nat):Bool:=(decide (q/64<b)||(decide (q/64=b)&&decide (q%64<i)))&&(decide (q%64<L.length)&&tkB (L.getD (q%64) zPc) ((q/64:Nat):Int))
theorem qnf (L:List Pc):tq L 0 0=fun _=>false:=by funext q;simp[tq]
theorem qng (L:List Pc) (b i:Nat) (hi:i<L.length) (hl:L.length≤64):qoh (tq L b i) (b*64+i) (tkB (L.getD i zPc) ((b:Nat):Int))=tq L b (i+1):=by
 funext q
 unfold qoh;by_cases e:q=b*64+i
 ·subst e
  have e1:(b*64+i)/64=b:=by omega
  have e2:(b*64+i)%64=i:=by omega
  rw[if_pos rfl];unfold tq;rw[e1,e2];simp[hi]
 ·rw[if_neg e]
  unfold tq
  congr 2
  by_cases h:q/64=b
  ·have:q%64≠i:=fun h2=>e (by omega)
   simp only[h,decide_true,Bool.true_and]
   congr 1
   simp;omega
  ·simp[h]
theorem qoi (L:List Pc) (b:Nat):tq L b L.length=tq L (b+1) 0:=by
 funext q
 unfold tq;by_cases h:q%64<L.length
 ·simp only[h,decide_true,Bool.and_true,Bool.true_and,Nat.not_lt_zero,decide_false,Bool.and_false,Bool.or_false]
  congr 1
  by_cases h1:q/64<b
  ·simp[h1,Nat.lt_succ_of_lt h1]
  ·by_cases h2:q/64=b
   ·simp[h2]
   ·have:¬q/64<b+1:=by omega
    simp[h1,h2,this]
 ·simp[h]
theorem Tryz.info73b:(Tryz.prog.info? 73).map (fun i=>(i.zero,i.size,i.bytes))=some (some (.agg (Array.replicate 64 (Value.bool false))),64,64):=by kernel_rfl
theorem qoj (V:World):(Instr.makeSlice 67 (.int .i64 256) (.int .i64 256)).run Tryz.prog V=.ok (.slice (some ⟨V.heap.size,0,none⟩) 256 256) (V.alloc (.cells (mkb 16384 fun _=>false) 73)):=by
 obtain⟨i,h0,h1,h2,h3⟩:=info_parts Tryz.info73b;have:=run_make V 67 73 i _ (P:=Tryz.prog) Tryz.underlying67 h0 h1 .i64 .i64 256 256 (by decide) (by decide) (by rw[h3];decide) (by decide);rw[this,h2];rw[show Int.toNat 256*64=16384 from rfl,qlm];rfl
theorem Rt.one {L:List Pc} (h:Rt L) {p:Pc} (hp:p∈L):Rt [p]:=⟨by simp,fun q hq=>by rw[List.mem_singleton.1 hq];exact h.2.1 p hp,fun i hi=>by simp at hi⟩
theorem qln (W:World) (p:PD) (h:qge (W.alloc (.cells #[.int .i64 p.p.kind,.int .i64 p.p.b,.bool p.p.no,.slice p.so p.p.set.length p.sc] 96)) p.so p.p.set):qe2 (W.alloc (.cells #[.int .i64 p.p.kind,.int .i64 p.p.b,.bool p.p.no,.slice p.so p.p.set.length p.sc] 96)) (some ⟨W.heap.size,0,none⟩) [p]:=by
 have B:=heap_alloc_new W (.cells #[.int .i64 p.p.kind,.int .i64 p.p.b,.bool p.p.no,.slice p.so p.p.set.length p.sc] 96);refine .inr ⟨_,0,rfl,lt_of_block B,fun i hi=>?_⟩;obtain rfl:i=0:=by simp at hi;omega
 exact⟨by rw[cell_of_row _ _ _ _ _ _ B];rfl,by rw[cell_of_row _ _ _ _ _ _ B];rfl,by rw[cell_of_row _ _ _ _ _ _ B];rfl,by rw[cell_of_row _ _ _ _ _ _ B];rfl,h⟩
set_option maxRecDepth 100000 in
set_option maxHeartbeats 8000000 in
theorem qg9 (ao:Option Addr) (cap:Nat) (D:List PD) (w:World) (hR:Rt (D.map PD.p)) (hLen:∀d∈D,d.p.set.length≤140737488351232) (hat:qe2 w ao D):
 Calls Tryz.prog 41 #[.slice ao D.length cap] w fun e w'=>e=.returned (.slice (some ⟨w.heap.size,0,none⟩) 256 256)∧w'.heap[w.heap.size]? =some (.cells (mkb 16384 (tq (D.map PD.p) 256 0)) 73 (0,0))∧Below w.heap.size w w':=by
 have hl:D.length≤64:=by have:=hR.1;rwa [List.length_map] at this
 have HAT:=qaa hat;have HR:=qaa hR;have HLEN:=qaa hLen;have hmk:=qoj w;have B0:Hid ((w.alloc (.cells (mkb 16384 fun _=>false) 73)).heap[w.heap.size]? =some (.cells (mkb 16384 (tq (D.map PD.p) 0 0)) 73 (0,0))):=by unfold Hid;rw[qnf];exact heap_alloc_new _ _
 have X0:Hid (Below w.heap.size w (w.alloc (.cells (mkb 16384 fun _=>false) 73))):=al (Below.refl _ _) _;clear hat hR hLen;generalize w.alloc (.cells (mkb 16384 fun _=>false) 73)=w1 at *;go_enter Tryz.func41,Tryz.ntmps41;go_wp2;go_loopg [10] 257 (fun g x wr=>∃b:Nat,x=.int .i64 (b:Nat)∧Hid (wr.heap[w.heap.size]? =some (.cells (mkb 16384 (tq (D.map PD.p) b 0)) 73 (0,0)))∧Hid (Below w.heap.size w wr)∧b≤256∧256-b<g)
 case atStart=>exact⟨0,rfl,B0,X0,by omega,by omega⟩
 case round=>
  obtain⟨b,rfl,BL,X,hb,hg⟩:=hrel;have HG:=qaa hg;clear hg;by_cases hlt:b<256
  ·have hlt':(b:Int)<256:=by omega
   have wb:IntKind.u8.wrap ((b:Nat):Int)=((b:Nat):Int):=by simp[IntKind.wrap,IntKind.bits,IntKind.signed];omega
   have B1:=heap_alloc_new wr (.cells #[.int .u8 (b:Int)] 5);have X1:Below wr.heap.size wr (wr.alloc (.cells #[.int .u8 (b:Int)] 5)):=al (Below.refl _ _) _;have hcv:(convert 89 9 (.slice (some ⟨wr.heap.size,0,none⟩) 1 1)).run Tryz.prog (wr.alloc (.cells #[.int .u8 (b:Int)] 5))=.ok (.string ⟨#[UInt8.ofNat b]⟩) (wr.alloc (.cells #[.int .u8 (b:Int)] 5)):=by
    have:=run_convert_bytes_arg (P:=Tryz.prog) (wr.alloc (.cells #[.int .u8 (b:Int)] 5)) 89 5 Tryz.underlying89 Tryz.underlying5 wr.heap.size 0 1 1 [(b:Int)] (by simp) (fun i hi=>by
     obtain rfl:i=0:=by omega
     rw[cell_of_row _ _ _ _ _ _ B1];rfl) 9 Tryz.underlying9
    rw[this];rfl
   have BL1:Hid ((wr.alloc (.cells #[.int .u8 (b:Int)] 5)).heap[w.heap.size]? =some (.cells (mkb 16384 (tq (D.map PD.p) b 0)) 73 (0,0))):=(X1.block _ (lt_of_block BL.out)).trans BL.out;have XX1:=qaa (bt X.out X1 (Nat.le_refl _));clear B1 X1 B0 X0 hmk;go_upto_region 6 with fail
   generalize wr.alloc (.cells #[.int .u8 (b:Int)] 5)=w2 at *;go_wp2;go_loopg [19] (D.length+1) (fun g x wr=>∃k:Nat,x=.int .i64 (k:Nat)∧Hid (wr.heap[w.heap.size]? =some (.cells (mkb 16384 (tq (D.map PD.p) b k)) 73 (0,0)))∧Hid (Below w.heap.size w wr)∧k≤D.length∧D.length-k<g)
   case atStart=>exact⟨0,rfl,BL1,XX1,by omega,by omega⟩
   case round=>
    obtain⟨k,rfl,BL,X,hk,hg2⟩:=hrel;have HG2:=qaa hg2;clear hg2 BL1 XX1 hcv;by_cases hkl:k<D.length
    ·have hkl':(k:Int)<(D.length:Int):=by omega
     have h64:(k:Int)<64:=by omega
     rcases HAT.out with h|⟨pb,off,rfl,hpb,hc⟩
     ·rw[h] at hkl;simp at hkl
     obtain⟨p0,p1,p2,p3,p4⟩:=hc k hkl;have r0:=(X.out.cell (p:=⟨pb,off+k*4,none⟩) hpb).trans p0;have r1:=(X.out.cell (p:=⟨pb,off+k*4+1,none⟩) hpb).trans p1;have r2:=(X.out.cell (p:=⟨pb,off+k*4+2,none⟩) hpb).trans p2;have r3:=(X.out.cell (p:=⟨pb,off+k*4+3,none⟩) hpb).trans p3;have P4:=qaa (p4.below X.out);have HR1:=qaa (HR.out.one (List.mem_map_of_mem (f:=PD.p) (List.getElem_mem hkl)));have HPL:=qaa (HLEN.out _ (List.getElem_mem hkl));have HTN:Hid (qoh (tq (D.map PD.p) b k) (b*64+k) (tkB D[k].p ((b:Nat):Int))=tq (D.map PD.p) b (k+1)):=by
      have:=qng (D.map PD.p) b k (by rw[List.length_map];exact hkl) (by rw[List.length_map];exact hl);rw[qcl D k hkl] at this;exact this
     generalize D[k]=d at *;clear hc p0 p1 p2 p3 p4;have HM:Hid (∀V:World,Below (wr.alloc (.cells #[.int .i64 d.p.kind,.int .i64 d.p.b,.bool d.p.no,.slice d.so d.p.set.length d.sc] 96)).heap.size (wr.alloc (.cells #[.int .i64 d.p.kind,.int .i64 d.p.b,.bool d.p.no,.slice d.so d.p.set.length d.sc] 96)) V→Calls Tryz.prog 31 #[.slice (some ⟨wr.heap.size,0,none⟩) 1 1,.string ⟨#[UInt8.ofNat b]⟩] V fun e w'=>e=.returned (.tuple #[.bool (tkB d.p ((b:Nat):Int)),.int .i64 0])∧Below wr.heap.size wr w'):=fun V x=>by
      have x2:Below wr.heap.size wr (wr.alloc (.cells #[.int .i64 d.p.kind,.int .i64 d.p.b,.bool d.p.no,.slice d.so d.p.set.length d.sc] 96)):=al (Below.refl _ _) _;have x3:=bt x2 x (Nat.le_refl _);have:=qfv (some ⟨wr.heap.size,0,none⟩) 1 [d] [UInt8.ofNat b] V (by simp) (fun y hy=>by rw[List.mem_singleton.1 hy];exact HPL.out) ((qln wr d (P4.out.below x2)).below x);refine this.mono ?_;rintro e w' ⟨h,x4⟩;refine⟨?_,bt x3 x4 (Nat.le_refl _)⟩;rcases h with⟨_,rfl⟩|⟨h,_⟩
      ·have e1:mtF ([d].map PD.p) [UInt8.ofNat b] ([d].map PD.p).length=tkB d.p (((UInt8.ofNat b).toNat:Nat):Int):=qjp d.p (UInt8.ofNat b)
       have e2:(UInt8.ofNat b).toNat=b:=by simp;omega
       rw[e1,e2]
      ·exact absurd HR1.out h
     generalize tkB d.p ((b:Nat):Int)=v at *;have hq:b*64+k<16384:=by omega
     have lw:=lt_of_block BL.out;have HCW:Hid (∀V,Below wr.heap.size wr V→V.cell? ⟨w.heap.size,b*64+k,none⟩=some (.bool (tq (D.map PD.p) b k (b*64+k)))∧V.frozen? ⟨w.heap.size,b*64+k,none⟩=false):=fun V x=>by
      have b1:=(x.block _ lw).trans BL.out;exact⟨by rw[cell_of_row _ _ _ _ _ _ b1];exact qe6 _ _ _ hq,frozen_of_row _ _ _ _ _ b1⟩
     go_wp2;go_region_with (go_at_call 31;refine(HM.out _ ?_).mono ?_;exact(Below.refl _ _).drew;rintro e w4 ⟨rfl,x4⟩;obtain⟨y1,y2⟩:=HCW.out w4 x4;have X4:=qaa x4;clear x4);have b4:=(X4.out.block _ lw).trans BL.out;have hk6:Kept (fun i=>i=w.heap.size) w4 (w4.setCell ⟨w.heap.size,b*64+k,none⟩ (.bool v)):=Kept.setCell (F:=fun i=>i=w.heap.size) (p:=⟨w.heap.size,b*64+k,none⟩) (Kept.refl _ _) rfl _;have BN:Hid ((w4.setCell ⟨w.heap.size,b*64+k,none⟩ (.bool v)).heap[w.heap.size]? =some (.cells (mkb 16384 (tq (D.map PD.p) b (k+1))) 73 (0,0))):=by
      unfold Hid;rw[←HTN.out,←qne];exact block_setCell b4 _ _
     have XN:=qaa ((bt X.out X4.out (Nat.le_refl _)).trans (hk6.below (Nat.le_trans X.out.size X4.out.size) (fun i hi=>by omega)));clear b4 hk6;go_wp2;go_roundg (D.length-(k+1)+1)
     case measure=>have:=HG2.out;omega
     case rel=>exact⟨k+1,by first|rfl|go_num|(congr 1;omega),BN,XN,by omega,by omega⟩
    ·have hkl':¬(k:Int)<(D.length:Int):=by omega
     obtain rfl:k=D.length:=by omega
     have BN:Hid (wr.heap[w.heap.size]? =some (.cells (mkb 16384 (tq (D.map PD.p) (b+1) 0)) 73 (0,0))):=by
      unfold Hid;rw[←qoi,List.length_map];exact BL.out
     go_wp2;go_roundg (256-(b+1)+1)
     case measure=>have:=HG.out;omega
     case rel=>exact⟨b+1,by first|rfl|go_num|(congr 1;omega),BN,X,by omega,by omega⟩
  ·have hlt':¬(b:Int)<256:=by omega
   obtain rfl:b=256:=by omega
   go_wp2;go_ret;exact⟨rfl,BL.out,X.out⟩
end Go.Proofs.YtdgoilkgplnhfaaGreat
namespace Go.Proofs.YtdgoilkgplnhfaaGreat
open Go.RowKit Go.Lib Go.Maps
theorem qok {V:World} {tg:Nat} {F:Nat→Bool} (hB:V.heap[tg]? =some (.cells (mkb 16384 F) 73 (0,0))) {b:Nat} (hb:b<256):∀j v,(qb9 fun i=>F (b*64+i))[j]? =some v→V.cell? ((⟨tg,b*64,none⟩:Addr).add j)=some v:=fun j v hv=>by
 have hj:j<64:=by
  apply Nat.lt_of_not_le;intro h;rw[Array.getElem?_eq_none (by rw[qca];exact h)] at hv;cases hv
 rw[qdt _ _ hj] at hv;rw[addr_add,cell_of_row _ _ _ _ _ _ hB,qe6 _ _ _ (by omega)];exact hv
theorem qdp {P:Program} {o:Oper} {a:Act} {V:World} (ty:TypeId) (x:Operand) (ho:o.op=.load ty x) (p:Addr) (hx:a.eval x=.pointer (some p)) (v:Value) (hl:(loadVar ty p).run P V=.ok v V):(execOp a.eval o).run P V=.ok (.value v) V:=by
 unfold execOp;simp only[ho,hx,Instr.loadAt,Instr.sureAddr,Sem.run_bind,Sem.run_pure,Result.andThen_ok,hl]
set_option maxRecDepth 100000 in
set_option maxHeartbeats 4000000 in
theorem qnh (b pg tg:Nat) (F:Nat→Bool) (w:World) (hb:b<256) (hp:w.cell? ⟨pg,0,none⟩=some (.slice (some ⟨tg,0,none⟩) 256 256)) (hpl:pg<w.heap.size) (hB:w.heap[tg]? =some (.cells (mkb 16384 F) 73 (0,0))):
 Calls Tryz.prog 43 #[.int .i64 (b:Nat),.pointer (some ⟨pg,0,none⟩)] w fun e w'=>e=.returned (.agg (qb9 fun i=>F (b*64+i)))∧Below w.heap.size w w':=by
 obtain⟨hzv,hsz⟩:=zero_of_info Tryz.info73;obtain⟨z,hz⟩:∃z,z=(Array.replicate 64 (Value.bool false)):=⟨_,rfl⟩;have HZS:Hid (z.size=64):=by unfold Hid;rw[hz];simp
 rw[←hz] at hzv;clear hz;have hlt:(b:Int)<256:=by omega
 have X1:Below w.heap.size w (w.alloc (.cells z 73)):=al (Below.refl _ _) _;have B1:=qaa (heap_alloc_new w (.cells z 73));have c0:=(X1.cell (p:=⟨pg,0,none⟩) hpl).trans hp;have BB:=qaa ((X1.block _ (lt_of_block hB)).trans hB);have HC:=qaa (qok BB.out hb);obtain⟨m,hm⟩:∃m,Hid (m=qb9 fun i=>F (b*64+i)):=⟨_,rfl⟩;rw[←hm.out] at HC;have HI:Hid ((Tryz.prog.info? 73).map (·.size)=some m.size):=by unfold Hid;rw[hsz,hm.out,qca]
 have HZ2:Hid (z.size=m.size):=by unfold Hid;rw[HZS.out,hm.out,qca]
 have HAL:Hid (m.all (·.oneCell')=true):=by unfold Hid;rw[hm.out];exact qhp _
 have X1:=qaa X1;clear hsz hp hB hpl;go_enter Tryz.func43,Tryz.ntmps43;go_wp2_with (first
  |(refine qbr rfl 73 (.tmp 6) rfl ⟨tg,b*64,none⟩ (by first|rfl|(simp;done)) m _ HC.out Tryz.underlying73 rfl HI.out ?_)
  |(refine wpList_store_row rfl 73 (.tmp 3) (.tmp 7) rfl w.heap.size m rfl rfl 73 z B1.out HI.out HZ2.out HAL.out ?_))
 have HBN:=qaa (setRow_heap _ w.heap.size z m 73 (0,0) B1.out);have HXN:=qaa (below_setRow X1.out (Nat.le_refl w.heap.size) m);refine bodyPost_ret (v:=.agg m) (results_cell_row rfl _ _ w.heap.size 73 m (0,0) _ rfl HBN.out Tryz.underlying73 rfl HI.out) rfl ?_;exact⟨by rw[hm.out],HXN.out⟩
set_option maxRecDepth 100000 in
set_option maxHeartbeats 8000000 in
theorem qni (ao:Option Addr) (cap fc c q p0 p1 p2 tg:Nat) (fa:Option Addr) (fst:List Nat) (D:List PD) (f F:Nat→Bool) (w:World) (hl:D.length≤64) (hq:fst[c]? =some q) (hqb:q<256) (hat:qe2 w ao D) (hfa:NAt w fa fst)
 (h0:w.cell? ⟨p0,0,none⟩=some (.slice ao D.length cap)) (h1:w.cell? ⟨p1,0,none⟩=some (.slice (some ⟨tg,0,none⟩) 256 256)) (h2:w.cell? ⟨p2,0,none⟩=some (.slice fa fst.length fc)) (l0:p0<w.heap.size) (l1:p1<w.heap.size) (l2:p2<w.heap.size) (hB:w.heap[tg]? =some (.cells (mkb 16384 F) 73 (0,0))):
 Calls Tryz.prog 46 #[.agg (mk f),.int .i64 (c:Nat),.pointer (some ⟨p0,0,none⟩),.pointer (some ⟨p1,0,none⟩),.pointer (some ⟨p2,0,none⟩)] w fun e w'=>e=.returned (.agg (mk (clF (D.map PD.p) (agF (D.map PD.p) f (fun i=>F (q*64+i)) D.length) D.length)))∧Below w.heap.size w w':=by
 obtain⟨hzv,hsz⟩:=zero_of_info Tryz.info80;have HZS:=qaa (qaq fun _=>false);have hs:=qaq f;obtain⟨z,hz⟩:∃z,Hid (z=mk fun _=>false):=⟨_,rfl⟩;rw[←hz.out] at hzv HZS;obtain⟨a,ha⟩:∃a,Hid (a=mk f):=⟨_,rfl⟩;rw[←ha.out] at hs ⊢;obtain⟨hc,hcq⟩:=List.getElem?_eq_some_iff.1 hq;obtain⟨fb,fo,rfl,hfb,cf⟩:=hfa.get hc;rw[hcq] at cf;have hc':(c:Int)<(fst.length:Int):=by omega
 have hq':(q:Int)<256:=by omega
 have e1:(w.alloc (.cells a 80)).heap.size=w.heap.size+1:=by simp
 have x1:Below w.heap.size w (w.alloc (.cells a 80)):=al (Below.refl _ _) _;have b1:=heap_alloc_new w (.cells a 80);have x2:Below (w.alloc (.cells a 80)).heap.size (w.alloc (.cells a 80)) ((w.alloc (.cells a 80)).alloc (.cells z 80)):=al (Below.refl _ _) _;have b2:=heap_alloc_new (w.alloc (.cells a 80)) (.cells z 80);have X2:=bt x1 x2 (Nat.le_refl _);have BA:=(x2.block _ (by omega)).trans b1;rw[e1] at b2;obtain⟨w2,hw2⟩:∃w2,w2=(w.alloc (.cells a 80)).alloc (.cells z 80):=⟨_,rfl⟩;rw[←hw2] at X2 BA b2;clear x1 x2 b1 e1;have HBZ:=qaa b2;have lz:=lt_of_block b2;have lA:=lt_of_block BA;have lt:=lt_of_block hB;obtain⟨m1,hm1⟩:∃m,Hid (m=qb9 fun i=>F (q*64+i)):=⟨_,rfl⟩;obtain⟨m,hm⟩:∃m,Hid (m=mk (clF (D.map PD.p) (agF (D.map PD.p) f (fun i=>F (q*64+i)) D.length) D.length)):=⟨_,rfl⟩;have HSK:Hid (∀V V',Below w2.heap.size w2 V→Kept (fun i=>i=w.heap.size+1) V V'→V'.cell? ⟨p0,0,none⟩=some (.slice ao D.length cap)∧V'.cell? ⟨p1,0,none⟩=some (.slice (some ⟨tg,0,none⟩) 256 256)∧V'.cell? ⟨p2,0,none⟩=some (.slice (some ⟨fb,fo,none⟩) fst.length fc)∧V'.cell? ⟨fb,fo+c,none⟩=some (.int .i64 (q:Int))∧(loadVar 80 ⟨w.heap.size,0,none⟩).run Tryz.prog V'=.ok (.agg a) V'∧(loadVar 73 ⟨tg,q*64,none⟩).run Tryz.prog V'=.ok (.agg m1) V'):=fun V V' x k=>by
  have y:=bt X2 x (Nat.le_refl _);have kc:∀ {p:Addr},p.block<w.heap.size→V'.cell? p=w.cell? p:=fun {p} hp=>by
   have hp2:p.block<V.heap.size:=Nat.lt_of_lt_of_le hp y.size;exact(World.cell?_of_block (k.block _ hp2 (by omega))).trans (y.cell hp)
  have kb:∀g,g<w2.heap.size→¬g=w.heap.size+1→V'.heap[g]? =w2.heap[g]? :=fun g h1 h2=>(k.block _ (Nat.lt_of_lt_of_le h1 x.size) h2).trans (x.block _ h1)
  refine⟨(kc (p:=⟨p0,0,none⟩) l0).trans h0,(kc (p:=⟨p1,0,none⟩) l1).trans h1,(kc (p:=⟨p2,0,none⟩) l2).trans h2,(kc (p:=⟨fb,fo+c,none⟩) hfb).trans cf,?_,?_⟩
  ·exact run_loadVar_row V' w.heap.size 80 80 a (0,0) _ ((kb _ lA (by omega)).trans BA) Tryz.underlying80 rfl (by rw[hsz,hs])
  ·rw[hm1.out]
   have e2:w2.heap[tg]? =w.heap[tg]? :=X2.block _ lt;exact qcv V' ⟨tg,q*64,none⟩ 73 _ _ (qok ((kb _ (Nat.lt_of_lt_of_le lt X2.size) (by omega)).trans (e2.trans hB)) hqb) Tryz.underlying73 rfl (by rw[(zero_of_info Tryz.info73).2,qca])
 have HS:Hid (∀V,Below w2.heap.size w2 V→V.cell? ⟨p0,0,none⟩=some (.slice ao D.length cap)∧V.cell? ⟨p1,0,none⟩=some (.slice (some ⟨tg,0,none⟩) 256 256)∧V.cell? ⟨p2,0,none⟩=some (.slice (some ⟨fb,fo,none⟩) fst.length fc)∧V.cell? ⟨fb,fo+c,none⟩=some (.int .i64 (q:Int))∧(loadVar 80 ⟨w.heap.size,0,none⟩).run Tryz.prog V=.ok (.agg a) V∧(loadVar 73 ⟨tg,q*64,none⟩).run Tryz.prog V=.ok (.agg m1) V):=fun V x=>HSK.out V V x (Kept.refl _ _)
 have HAF:Hid (∀V,Below w2.heap.size w2 V→Calls Tryz.prog 47 #[.slice ao D.length cap,.agg a,.agg m1] V fun e w'=>e=.returned (.agg m)∧Below V.heap.size V w'):=fun V x=>by
  rw[ha.out,hm1.out,hm.out];exact qik ao cap D f _ V hl (hat.below (bt X2 x (Nat.le_refl _)))
 have HI:Hid ((Tryz.prog.info? 80).map (·.size)=some m.size):=by unfold Hid;rw[hsz,hm.out,qaq]
 have HZ2:Hid (z.size=m.size):=by unfold Hid;rw[HZS.out,hm.out,qaq]
 have HAL:Hid (m.all (·.oneCell')=true):=by unfold Hid;rw[hm.out];exact qcy _
 have X2:=qaa X2;obtain⟨g0,g1,g2,g3,g4,g5⟩:=HS.out w2 (Below.refl _ _);clear hsz hs h0 h1 h2 l0 l1 l2 hB hat hfa hq hcq cf BA b2;go_enter Tryz.func46,Tryz.ntmps46;go_upto_region 1 with fail
 rw[←hw2];clear hw2;refine wp_region_held (S:=fun V=>V.cell? ⟨p0,0,none⟩=some (.slice ao D.length cap)∧V.cell? ⟨p1,0,none⟩=some (.slice (some ⟨tg,0,none⟩) 256 256)∧V.cell? ⟨p2,0,none⟩=some (.slice (some ⟨fb,fo,none⟩) fst.length fc)∧V.cell? ⟨fb,fo+c,none⟩=some (.int .i64 (q:Int))∧(loadVar 80 ⟨w.heap.size,0,none⟩).run Tryz.prog V=.ok (.agg a) V∧(loadVar 73 ⟨tg,q*64,none⟩).run Tryz.prog V=.ok (.agg m1) V) (by kernel_rfl) ?_;change wpAnyH _ _ _ _ _ _ _ _ (World.drew _);have hS2:=HS.out w2.drew (Below.refl _ _).drew;refine wpAnyH_take (i:=0) (v:=.slice ao D.length cap) rfl (by kernel_rfl) (by kernel_rfl) (by kernel_rfl) (fun _ _ _ h=>h) (Or.inl ⟨by rfl,fun V hV=>by obtain⟨g0,g1,g2,g3,_,_⟩:=hV;go_simp⟩) hS2 ?_;refine wpAnyH_take (i:=1) (v:=.agg a) rfl (by kernel_rfl) (by kernel_rfl) (by kernel_rfl) (fun _ _ _ h=>h) (Or.inl ⟨by rfl,fun V hV=>qdp 80 (.tmp 5) rfl ⟨w.heap.size,0,none⟩ rfl _ hV.2.2.2.2.1⟩) hS2 ?_;refine wpAnyH_take (i:=2) (v:=.slice (some ⟨tg,0,none⟩) 256 256) rfl (by kernel_rfl) (by kernel_rfl) (by kernel_rfl) (fun _ _ _ h=>h) (Or.inl ⟨by rfl,fun V hV=>by obtain⟨g0,g1,g2,g3,_,_⟩:=hV;go_simp⟩) hS2 ?_;refine wpAnyH_take (i:=3) (v:=.slice (some ⟨fb,fo,none⟩) fst.length fc) rfl (by kernel_rfl) (by kernel_rfl) (by kernel_rfl) (fun _ _ _ h=>h) (Or.inl ⟨by rfl,fun V hV=>by obtain⟨g0,g1,g2,g3,_,_⟩:=hV;go_simp⟩) hS2 ?_;refine wpAnyH_take (i:=4) (v:=.int .i64 (c:Nat)) rfl (by kernel_rfl) (by kernel_rfl) (by kernel_rfl) (fun _ _ _ h=>h) (Or.inl ⟨by rfl,fun V hV=>by obtain⟨g0,g1,g2,g3,_,_⟩:=hV;go_simp⟩) hS2 ?_;refine wpAnyH_take (i:=5) (v:=.pointer (some ⟨fb,fo+c,none⟩)) rfl (by kernel_rfl) (by kernel_rfl) (by kernel_rfl) (fun _ _ _ h=>h) (Or.inl ⟨by rfl,fun V hV=>by obtain⟨g0,g1,g2,g3,_,_⟩:=hV;go_simp⟩) hS2 ?_;refine wpAnyH_take (i:=6) (v:=.int .i64 (q:Int)) rfl (by kernel_rfl) (by kernel_rfl) (by kernel_rfl) (fun _ _ _ h=>h) (Or.inl ⟨by rfl,fun V hV=>by obtain⟨g0,g1,g2,g3,_,_⟩:=hV;go_simp⟩) hS2 ?_;refine wpAnyH_take (i:=7) (v:=.pointer (some ⟨tg,q*64,none⟩)) rfl (by kernel_rfl) (by kernel_rfl) (by kernel_rfl) (fun _ _ _ h=>h) (Or.inl ⟨by rfl,fun V hV=>by obtain⟨g0,g1,g2,g3,_,_⟩:=hV;go_simp⟩) hS2 ?_;refine wpAnyH_take (i:=8) (v:=.agg m1) rfl (by kernel_rfl) (by kernel_rfl) (by kernel_rfl) (fun _ _ _ h=>h) (Or.inl ⟨by rfl,fun V hV=>qdp 73 (.tmp 15) rfl ⟨tg,q*64,none⟩ rfl _ hV.2.2.2.2.2⟩) hS2 ?_;refine wpAnyH_all (rs:=[9]) (by kernel_rfl) (by simp) (fun i hi=>?_);obtain rfl:i=9:=by simpa using hi
 refine wpOp_step rfl (fun K hK=>?_);go_simp;refine(HAF.out _ (Below.refl _ _).drew).mono ?_;rintro e w6 ⟨rfl,x6⟩;have y6:Below w2.heap.size w2 w6:=(Below.refl _ _).drew.trans x6;have X6:=qaa (bt X2.out y6 (Nat.le_refl _));have BR6:=qaa ((y6.block _ lz).trans HBZ.out);refine hK _ _ ⟨HS.out _ y6,?_⟩;clear hK K hS2;refine wpAnyH_all (rs:=[10]) (by kernel_rfl) (by simp) (fun i hi=>?_);obtain rfl:i=10:=by simpa using hi
 refine wpOp_step rfl (fun K hK=>?_);rw[if_pos (by rfl)];refine wp_store_row 80 (.tmp 7) (.tmp 17) rfl (w.heap.size+1) m rfl rfl 80 z BR6.out HI.out HZ2.out HAL.out ?_;have hk6:Kept (fun i=>i=w.heap.size+1) w6 (w6.setRow (w.heap.size+1) m):=⟨rfl,rfl,rfl,by simp[World.setRow],fun i _ hi=>by have hne:¬w.heap.size+1=i:=fun h=>hi h.symm;simp[World.setRow,Array.getElem?_modify,hne]⟩;refine hK _ _ ⟨HSK.out _ _ y6 hk6,?_⟩;clear hK K;refine wpAnyH_done (by kernel_rfl) ?_ _;have HBN:=qaa (setRow_heap w6 (w.heap.size+1) z m 80 (0,0) BR6.out);have HXN:=qaa (below_setRow X6.out (Nat.le_succ w.heap.size) m);clear hk6;go_wp2;refine bodyPost_ret (v:=.agg m) (results_cell_row rfl _ _ (w.heap.size+1) 80 m (0,0) _ rfl HBN.out Tryz.underlying80 rfl HI.out) rfl ?_;exact⟨by rw[hm.out],HXN.out⟩
end Go.Proofs.YtdgoilkgplnhfaaGreat

