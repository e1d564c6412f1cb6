/-
  The columns of all bytes as a text; whether a number is a label. Condition: at most 2^32 columns.
-/
import Derived.Laws.BytesArg
import Derived.Deep.DeepCutAuto
import Derived.Deep.LoopGhost
import Derived.Test.YtdgoilkgplnhfaaGreatJ05
import Derived.Carry
import Derived.Test.YtdgoilkgplnhfaaGreatJ03
namespace Go.Proofs.YtdgoilkgplnhfaaGreat
open Go.RowKit Go.Lib
def Lab (l:Int):Prop:=0≤l∧l≤65535
instance (l:Int):Decidable (Lab l):=inferInstanceAs (Decidable (0≤l∧l≤65535))
set_option maxRecDepth 100000 in
theorem qc1 (l:Int) (w:World):Calls Tryz.prog 64 #[.int .i64 l] w fun e w'=>e=.returned (.bool (decide (Lab l)))∧w'=w:=by
 by_cases h1:0≤l
 ·by_cases h2:l≤65535
  ·have HE:Hid (decide (Lab l)=true):=decide_eq_true ⟨h1,h2⟩
   go_enter Tryz.func64,Tryz.ntmps64;go_wp2;go_ret;exact⟨by rw[HE.out];first|rfl|simp_all,rfl⟩
  ·have HE:Hid (decide (Lab l)=false):=decide_eq_false (fun h=>h2 h.2)
   go_enter Tryz.func64,Tryz.ntmps64;go_wp2;go_ret;exact⟨by rw[HE.out];first|rfl|simp_all,rfl⟩
 ·have HE:Hid (decide (Lab l)=false):=decide_eq_false (fun h=>h1 h.1)
  go_enter Tryz.func64,Tryz.ntmps64;go_wp2;go_ret;exact⟨by rw[HE.out];first|rfl|simp_all,rfl⟩
def qar (L:List Nat):List Value:=L.map fun(n:Nat)=>Value.int .u8 (n:Int)
def qds (w:World) (base:Nat) (v:Value) (L:List Nat):Prop:=w.ownsRow base 5 1 v L.length (qar L)
theorem Tryz.info5n:(Tryz.prog.info? 5).map (fun i=>(i.zero,i.size,i.bytes))=some (some (.int .u8 0),1,1):=by kernel_rfl
theorem qh2 (n:Nat):(madeCells (Value.int .u8 0).cells (n*1)).toList=qar (List.replicate n 0):=by
 unfold qar;simp only[madeCells,Value.cells,List.map_replicate,Nat.mul_one];rw[List.eq_replicate_iff];refine⟨by simp,fun b hb=>?_⟩;simp only[Array.toList_map,List.mem_map] at hb;obtain⟨x,_,rfl⟩:=hb;simp[Nat.mod_one]
theorem qds.slot {w:World} {base g n:Nat} {L:List Nat} (h:qds w base (.slice (some ⟨g,0,none⟩) n n) L) {i:Nat} (hi:i<L.length):n=L.length∧w.cell? ⟨g,i,none⟩=some (.int .u8 (L[i]:Int))∧w.frozen? ⟨g,i,none⟩=false:=by
 have hh:w.ownsRow base 5 1 (.slice (some ⟨g,0,none⟩) n n) L.length (qar L):=h;have hn:n=L.length:=by
  rcases hh.2 with⟨e,e2⟩|⟨g',c',cur,e,_⟩
  ·cases e
  ·injection e with _ e2 _
 subst hn;exact⟨rfl,by rw[hh.cellAt i (by omega)];simp[qar,hi],hh.frozenAt _⟩
theorem qds.store {w:World} {base g n:Nat} {L:List Nat} (h:qds w base (.slice (some ⟨g,0,none⟩) n n) L) (hn:n=L.length) (i x:Nat):qds (w.setCell ⟨g,i,none⟩ (.int .u8 (x:Int))) base (.slice (some ⟨g,0,none⟩) n n) (L.set i x)∧Kept (fun k=>k=g) w (w.setCell ⟨g,i,none⟩ (.int .u8 (x:Int))):=by
 subst hn;have hh:w.ownsRow base 5 1 (.slice (some ⟨g,0,none⟩) L.length L.length) L.length (qar L):=h;obtain⟨h1,h2⟩:=hh.stored i (.int .u8 (x:Int));refine⟨?_,(qae h2).mono (fun k hk=>by injection hk with hk;exact hk.symm)⟩;unfold qds;rw[List.length_set,show qar (L.set i x)=(qar L).set i (.int .u8 (x:Int)) by simp[qar,List.map_set]];exact h1
def qav (L:List Nat):By:=L.map UInt8.ofNat
set_option maxRecDepth 100000 in
set_option maxHeartbeats 2000000 in
theorem qbn (ao:Option Addr) (cap:Nat) (L:List Nat) (w:World) (hl:L.length≤4294967296) (h256:∀x∈L,x<256) (hat:NAt w ao L):
 Calls Tryz.prog 48 #[.slice ao L.length cap] w fun e w'=>e=.returned (.string ⟨(qav L).toArray⟩)∧Below w.heap.size w w':=by
 obtain⟨i5,hi5,hz50,hz51,hz52⟩:=info_parts Tryz.info5n;have HAT:=qaa hat;have HX:=qaa h256;clear hat h256;go_enter Tryz.func48,Tryz.ntmps48;go_wp2_with (at_make;refine wpList_make_full _ rfl (.tmp 7) (.tmp 7) 89 rfl w.heap.size 5 i5 (.int .u8 0) 1 Tryz.underlying89 hi5 hz50 hz51 .i64 .i64 _ _ L.length rfl rfl rfl rfl (by rw[hz52];omega) (by unfold maxLen;omega) (Nat.le_refl _) ?_;intro w2 h1 h2;have X2:=qaa (qad h2);have O2:Hid (qds w2 w.heap.size (.slice (some ⟨w.heap.size,0,none⟩) L.length L.length) (L.take 0++List.replicate (L.length-0) 0)):=(by unfold Hid qds;rw[qh2] at h1;simpa using h1);clear h1 h2);go_loopg [11] (L.length+1) (fun g x wr=>∃i:Nat,x=.int .i64 i∧i≤L.length∧Hid (qds wr w.heap.size (.slice (some ⟨w.heap.size,0,none⟩) L.length L.length) (L.take i++List.replicate (L.length-i) 0))∧Hid (Below w.heap.size w wr)∧L.length-i<g)
 case atStart=>exact⟨0,rfl,by omega,O2,X2,by omega⟩
 case round=>
  obtain⟨i,rfl,hi1,O,XB,hg⟩:=hrel;have HG:=qaa hg;clear hg O2 X2;by_cases hi:i<L.length
  ·have hi':(i:Int)<(L.length:Int):=by omega
   obtain⟨b,off,rfl,hb,c0⟩:=(HAT.out.below XB.out).get hi;have hx:=HX.out L[i] (List.getElem_mem hi);have hll:(L.take i++List.replicate (L.length-i) 0).length=L.length:=by simp;omega
   obtain⟨u1,q1,q2⟩:∃u,wr.cell? ⟨w.heap.size,i,none⟩=some u∧wr.frozen? ⟨w.heap.size,i,none⟩=false:=by obtain⟨_,q1,q2⟩:=O.out.slot (i:=i) (by omega);exact⟨_,q1,q2⟩
   obtain⟨o3,k3⟩:=O.out.store hll.symm i L[i];have e3:(L.take i++List.replicate (L.length-i) 0).set i L[i]=L.take (i+1)++List.replicate (L.length-(i+1)) 0:=by
    rw[List.set_append_right _ _ (by simp;omega),List.take_succ_eq_append_getElem hi,List.append_assoc]
    congr 1
    obtain⟨m,hm⟩:∃m,L.length-i=m+1:=⟨L.length-i-1,by omega⟩;rw[hm,show L.length-(i+1)=m by omega,show i-(L.take i).length=0 by simp;omega];rfl
   rw[e3] at o3;have O3:=qaa o3;have X3:=qaa (XB.out.trans (k3.below XB.out.size (fun k hk=>by omega)));have f1:IntKind.u8.wrap ((L[i]:Nat):Int)=((L[i]:Nat):Int):=by simp[IntKind.wrap,IntKind.bits,IntKind.signed];omega
   generalize L[i]=y at *;clear o3 k3 e3 hll;go_wp2;go_roundg (L.length-(i+1)+1)
   case measure=>have:=HG.out;omega
   case rel=>exact⟨i+1,by first|rfl|go_num|(congr 1;omega),by omega,O3,X3,by omega⟩
  ·have hi':¬(i:Int)<(L.length:Int):=by omega
   obtain rfl:i=L.length:=by omega
   have o4:qds wr w.heap.size (.slice (some ⟨w.heap.size,0,none⟩) L.length L.length) L:=by have:=O.out;rwa [Nat.sub_self,List.replicate_zero,List.append_nil,List.take_length] at this
   have hcv:(convert 89 9 (.slice (some ⟨w.heap.size,0,none⟩) L.length L.length)).run Tryz.prog wr=.ok (.string (strOfNums (L.map fun b:Nat=>(b:Int)))) wr:=by
    refine run_convert_bytes_arg wr 89 5 Tryz.underlying89 Tryz.underlying5 w.heap.size 0 L.length L.length (L.map fun b:Nat=>(b:Int)) (by simp) (fun i hi=>?_) 9 Tryz.underlying9;rw[Nat.zero_add,(o4.slot hi).2.1];simp[List.getD_eq_getElem?_getD,hi]
   have HE:Hid (strOfNums (L.map fun b:Nat=>(b:Int))=⟨(qav L).toArray⟩):=by
    unfold Hid strOfNums qav;rw[List.map_map];rfl
   rw[HE.out] at hcv;clear o4;go_wp2;go_ret;exact⟨rfl,XB.out⟩
end Go.Proofs.YtdgoilkgplnhfaaGreat
namespace Go.Proofs.YtdgoilkgplnhfaaGreat
open Go.RowKit Go.Lib Go.Maps
structure qbd (base:Nat) (lit:Nat→Lit) (N:Nat) (v1 v2:Value) (num fst:List Nat) (w:World):Prop where
 o1:qan w base v1 num
 o2:qan w base v2 fst
 ap:∀b,v1.ownBlock=some b→¬v2.ownBlock=some b
 len:num.length=N
 nf:qbf lit N (gN num) (gN fst) fst.length
theorem NmS.start (k:TypeId) (w:World) (lit:Nat→Lit) (N:Nat) (w2:World) (h1:w2.ownsRow w.heap.size 3 1 (.slice (some ⟨(w.alloc (.map #[] 0)).heap.size,0,none⟩) N N) N (madeCells (Value.int .i64 0).cells (N*1)).toList) (h2:(w.alloc (.map #[] 0)).grownBy w2 none):
 NmS k w lit N w.heap.size (.slice (some ⟨w.heap.size+1,0,none⟩) N N) (.slice none 0 0) [] [] w2:=by
 rw[show(w.alloc (.map #[] 0)).heap.size=w.heap.size+1 by simp] at h1;have x0:Below w.heap.size w (w.alloc (.map #[] 0)):=al (Below.refl _ _) _;have x2:=qad h2;refine⟨(qc4.made k w).below x2,?_,qan.nil _ _,fun b _ h=>(by cases h),Nat.le_refl _,qbf.nil,Nat.zero_le _,bt x0 x2 (Nat.le_refl _),fun b h=>(by cases h)⟩;unfold qan;rw[qbs] at h1;simpa using h1
theorem slotN {w:World} {base g N:Nat} {L:List Nat} (h:qan w base (.slice (some ⟨g,0,none⟩) N N) L) {i:Nat} (hi:i<L.length):(∃u,w.cell? ⟨g,i,none⟩=some u)∧w.frozen? ⟨g,i,none⟩=false:=by
 refine⟨⟨_,h.cell hi⟩,?_⟩;have hh:w.ownsRow base 3 1 (.slice (some ⟨g,0,none⟩) N N) L.length (qab L):=h;have hn:N=L.length:=by
  rcases hh.2 with⟨e,e2⟩|⟨g',c',cur,e,_⟩
  ·cases e
  ·injection e with _ e2 _
 subst hn;exact hh.frozenAt _
theorem qbi (W:World) (n:Nat) (T:TypeId) (j:Nat) (u:Value) (hu:([.int .i64 (n:Nat)]:List Value)[j]? =some u):(W.alloc (.cells #[.int .i64 (n:Nat)] T)).cell? ((⟨W.heap.size,0,none⟩:Addr).add j)=some u:=by
 match j,hu with
 |0,hu=>simp at hu;subst hu;simp[Addr.add]
section
variable {k:TypeId} {w0 w w':World} {lit:Nat→Lit} {N mb g:Nat} {v2:Value} {num fst:List Nat}
theorem NmS.slot (h:NmS k w0 lit N mb (.slice (some ⟨g,0,none⟩) N N) v2 num fst w) (hi:num.length<N):(∃u,w.cell? ⟨g,num.length,none⟩=some u)∧w.frozen? ⟨g,num.length,none⟩=false:=
 slotN h.o1 (by rw[List.length_append,List.length_replicate];omega)
theorem NmS.hit (h:NmS k w0 lit N mb (.slice (some ⟨g,0,none⟩) N N) v2 num fst w) (hi:num.length<N) {n:Nat} (hn:n<fst.length) (he:lit (gN fst n)=lit num.length):
 NmS k w0 lit N mb (.slice (some ⟨g,0,none⟩) N N) v2 (num++[n]) fst (w.setCell ⟨g,num.length,none⟩ (.int .i64 (n:Int))):=by
 obtain⟨o1,k1⟩:=qan.store h.o1 num.length n;rw[qhi num hi] at o1;have hgb:=(World.ownsRow.lt (show w.ownsRow w0.heap.size 3 1 (.slice (some ⟨g,0,none⟩) N N) _ (qab _) from h.o1) g rfl).1;refine⟨h.map.kept k1 (fun e=>qba h.map h.o1 (by rw[e];rfl)),o1,qai h.o2 k1 (fun b hb e=>h.ap b (by rw[e];rfl) hb),h.ap,h.mge,?_,by rw[List.length_append,List.length_singleton];omega,h.bel.trans (k1.below h.bel.size (fun i hi=>by omega)),h.v2ne⟩;rw[List.length_append,List.length_singleton];exact h.nf.hit hn he
structure NmP (k:TypeId) (w0:World) (lit:Nat→Lit) (N mb g:Nat) (v2:Value) (num fst:List Nat) (w:World):Prop where
 map:qc4 k w mb (fst.map lit++[lit num.length])
 o1:qan w w0.heap.size (.slice (some ⟨g,0,none⟩) N N) (num++List.replicate (N-num.length) 0)
 o2:qan w w0.heap.size v2 fst
 ap:∀b,(.slice (some ⟨g,0,none⟩) N N:Value).ownBlock=some b→¬v2.ownBlock=some b
 mge:w0.heap.size≤mb
 nf:qbf lit (num.length+1) (gN (num++[fst.length])) (gN (fst++[num.length])) (fst.length+1)
 bel:Below w0.heap.size w0 w
theorem NmS.put (h:NmS k w0 lit N mb (.slice (some ⟨g,0,none⟩) N N) v2 num fst w) {D:DataW Unit} (hm:lit num.length∉fst.map lit) (hk:WideAt.IsKeyLit (lit num.length)) (hh:∀kl,Maps.has D kl=true↔kl∈fst.map lit) (ha:∀i (h:i<(fst.map lit).length),D.atKey (fst.map lit)[i] (.lit (.int .i64 0))=.lit (.int .i64 (i:Int)))
 (ho:w.ownsMap Tryz.prog k (plainElem Tryz.prog 3) mb (fst.map lit).length D) (h1:w'.ownsMap Tryz.prog k (plainElem Tryz.prog 3) mb ((fst.map lit).length+1) (D.put (lit num.length) (.lit (.int .i64 (fst.length:Int))))) (t4:w.mapTurned w' mb):NmP k w0 lit N mb g v2 num fst w':=by
 have k4:Kept (fun b=>b=mb) w w':=(qae t4.grown).mono (fun b hb=>by injection hb with hb;exact hb.symm);refine⟨qc4.put hk hm ho.isMap hh ha (by rw[List.length_map] at h1 ⊢;exact h1),qai h.o1 k4 (fun b hb e=>qba h.map h.o1 (by rw[←e];exact hb)),qai h.o2 k4 (fun b hb e=>qba h.map h.o2 (by rw[←e];exact hb)),h.ap,h.mge,h.nf.miss (fun i hi he=>hm ?_),h.bel.trans (k4.below h.bel.size (fun i hi=>by have:=h.mge;omega))⟩;rw[←he,qah hi];exact List.mem_map.2 ⟨_,List.getElem_mem hi,rfl⟩
theorem NmP.x5 (w:World) (n:Nat):Below w.heap.size w (w.alloc (.cells #[.int .i64 (n:Nat)] 3)):=al (Below.refl _ _) _
theorem NmP.o5 (h:NmP k w0 lit N mb g v2 num fst w):(w.alloc (.cells #[.int .i64 (num.length:Nat)] 3)).ownsRow w0.heap.size 3 1 v2 fst.length (qab fst):=own_below h.o2 (NmP.x5 _ _)
theorem NmP.s5 (h:NmP k w0 lit N mb g v2 num fst w):w0.heap.size≤(w.alloc (.cells #[.int .i64 (num.length:Nat)] 3)).heap.size:=Nat.le_trans h.bel.size (NmP.x5 w num.length).size
theorem NmP.app (h:NmP k w0 lit N mb g v2 num fst w) (hi:num.length<N) {v':Value} {w6:World} (g1:w6.ownsRow w0.heap.size 3 1 v' (fst.length+1) (qab fst++[.int .i64 (num.length:Nat)])) (g2:qbb (w.alloc (.cells #[.int .i64 (num.length:Nat)] 3)) w6 v2 v'):
 ((∃u,w6.cell? ⟨g,num.length,none⟩=some u)∧w6.frozen? ⟨g,num.length,none⟩=false)∧NmS k w0 lit N mb (.slice (some ⟨g,0,none⟩) N N) v' (num++[fst.length]) (fst++[num.length]) (w6.setCell ⟨g,num.length,none⟩ (.int .i64 (fst.length:Int))):=by
 have x5:=NmP.x5 w num.length;have o1:qan (w.alloc (.cells #[.int .i64 (num.length:Nat)] 3)) w0.heap.size (.slice (some ⟨g,0,none⟩) N N) (num++List.replicate (N-num.length) 0):=own_below h.o1 x5;have m5:=h.map.below x5;have b5:=bt h.bel x5 (Nat.le_refl _);have hk:∃F:Nat→Prop,Kept F (w.alloc (.cells #[.int .i64 (num.length:Nat)] 3)) w6∧(∀b,F b→v2.ownBlock=some b):=by
  rcases g2 with⟨q,a,b,c⟩|⟨a,b⟩
  ·exact⟨fun b=>some q=some b,qae c,fun b hb=>a.trans hb⟩
  ·exact⟨fun _=>False,Kept.of_below (qad a),fun b hb=>hb.elim⟩
 obtain⟨F,k6,hF⟩:=hk;have o6:qan w6 w0.heap.size (.slice (some ⟨g,0,none⟩) N N) (num++List.replicate (N-num.length) 0):=qai o1 k6 (fun b hb hf=>h.ap b hb (hF b hf));have m6:=m5.kept k6 (fun hf=>qba m5 h.o5 (hF _ hf));have b6:Below w0.heap.size w0 w6:=b5.trans (k6.below b5.size (fun i hf=>(World.ownsRow.lt h.o5 i (hF i hf)).1));obtain⟨o7,k7⟩:=qan.store o6 num.length fst.length;rw[qhi num hi] at o7;have hgl:=World.ownsRow.lt (show w.ownsRow w0.heap.size 3 1 (.slice (some ⟨g,0,none⟩) N N) _ (qab _) from h.o1) g rfl;have ap':∀b,(.slice (some ⟨g,0,none⟩) N N:Value).ownBlock=some b→¬v'.ownBlock=some b:=fun b hb hv=>by
  rcases g2 with⟨q,a,c,_⟩|⟨_,c⟩
  ·exact h.ap b hb (by rw[a,←c];exact hv)
  ·have:=c b hv
   have hb':g=b:=Option.some.inj hb;have:=x5.size;omega
 refine⟨slotN o6 (by rw[List.length_append,List.length_replicate];omega),m6.kept k7 (fun e=>qba m6 o6 (by rw[e];rfl))|>fun m=>by rw[List.map_append];exact m,o7,?_,ap',h.mge,?_,by rw[List.length_append,List.length_singleton];omega,b6.trans (k7.below b6.size (fun i hi=>by omega)),fun b hb e=>qba m6 g1 (by rw[←e];exact hb)⟩
 ·unfold qan
  rw[qa1,List.length_append,List.length_singleton];exact qai g1 k7 (fun b hb e=>ap' b (by rw[e];rfl) hb)
 ·rw[List.length_append,List.length_append,List.length_singleton]
  exact h.nf
end
set_option maxRecDepth 100000 in
set_option maxHeartbeats 4000000 in
theorem qky (N:Nat) (c0:Value) (look:Nat→Value) (lit:Nat→Lit) (w:World) (hN:N≤4294967296) (hk:∀i,i<N→keyOf Tryz.prog 3 (look i)=some (lit i)) (hkl:∀i,i<N→WideAt.IsKeyLit (lit i))
 (hc:∀i,i<N→∀W,Below w.heap.size w W→Calls Tryz.prog 121 #[.int .i64 (i:Nat),c0] W fun e w'=>e=.returned (look i)∧Below W.heap.size W w'):
 Calls Tryz.prog 120 #[.int .i64 (N:Nat),.func (.func 121) #[] #[c0]] w fun e w'=>(∃v1 v2,e=.returned (.tuple #[v1,v2])∧∃num fst,qbd w.heap.size lit N v1 v2 num fst w')∧Below w.heap.size w w':=by
 obtain⟨i3,hi3,hz30,hz31,hz32⟩:=info_parts Tryz.info3n;have hz0:∀W,(zeroValue 3).run Tryz.prog W=.ok (.int .i64 0) W:=fun W=>Tryz.zeroValue3 W
 have hmm:∀W:World,(Instr.makeMap 192 none).run Tryz.prog W=.ok (.map (some W.heap.size)) (W.alloc (.map #[] 0)):=fun W=>rfl
 have HC:=qaa hc;have HK:=qaa hk;have HKL:=qaa hkl;clear hc hk hkl;have S0:=qaa (fun w2 h1 h2=>NmS.start 3 w lit N w2 h1 h2);go_enter Tryz.func120,Tryz.ntmps120;go_wp2_with (at_make;refine wpList_make_full _ rfl (.tmp 12) (.tmp 12) 22 rfl w.heap.size 3 i3 (.int .i64 0) 1 Tryz.underlying22 hi3 hz30 hz31 .i64 .i64 _ _ N rfl rfl rfl rfl (by rw[hz32];omega) (by unfold maxLen;omega) (by simp) ?_;intro w2 h1 h2;have S1:=qaa (S0.out w2 h1 h2);clear h1 h2);go_loopg [5,15] (N+1) (fun g v2 x wr=>∃(num fst:List Nat),x=.int .i64 (num.length:Nat)∧Hid (NmS 3 w lit N w.heap.size (.slice (some ⟨w.heap.size+1,0,none⟩) N N) v2 num fst wr)∧N-num.length<g)
 case atStart=>exact⟨[],[],rfl,S1,by simp⟩
 case round=>
  obtain⟨num,fst,rfl,S,hg⟩:=hrel;have HG:=qaa hg;clear hg S1 S0;have hle:=S.out.le;obtain⟨a2,k2,hv2,_⟩:=qag S.out.o2;subst hv2;by_cases hi:num.length<N
  ·have hi':(num.length:Int)<(N:Int):=by omega
   have H1:=qaa (HC.out num.length hi wr S.out.bel);go_wp2_with (fail);refine H1.out.mono ?_;rintro e w3 ⟨rfl,x3⟩;clear H1;have S3:=qaa (S.out.below x3);clear x3;obtain⟨D,hown,hh,ha⟩:=S3.out.map;have HK1:=qaa (HK.out num.length hi);have HOWN:=qaa hown;have HA:=qaa ha;have hfl:fst.length≤num.length:=by
    have h:=S3.out.nf;exact qax num.length fst.length (gN fst) h.fstlt (fun i h1 j h2 e=>by rw[←h.numfst i h1,←h.numfst j h2,e])
   by_cases hm:lit num.length∈fst.map lit
   ·have hhas:Maps.has D (lit num.length)=true:=(hh _).2 hm
    have HHIT:Hid (∀c:Int,D.atKey (lit num.length) (.lit (.int .i64 0))=.lit (.int .i64 c)→∃n,n<fst.length∧lit (gN fst n)=lit num.length∧c=(n:Int)):=fun c hc=>by
     obtain⟨n,hn,e,rfl⟩:=qbz HA.out hc hm;rw[List.length_map] at hn;refine⟨n,hn,?_,rfl⟩;rw[←e,List.getElem_map,qah hn]
    obtain⟨⟨u1,q1⟩,q2⟩:=S3.out.slot hi;have HST:=qaa (fun n hn he=>S3.out.hit (n:=n) hi hn he);go_wp2_with (at_lookup;refine wpList_lookup_own_ok_int _ rfl _ _ 192 rfl 3 3 .i64 (int_keyed Tryz.underlying3) Tryz.underlying192 Tryz.underlying3 (hz0 _) w.heap.size _ D rfl HOWN.out _ _ rfl HK1.out ?_;intro c hat hwc;obtain⟨n,hn,hne,rfl⟩:=HHIT.out c hat;have S4:=qaa (HST.out n hn hne);clear hat hwc hn hne);go_roundg (N-(num.length+1)+1)
    case measure=>have:=HG.out;omega
    case rel=>exact⟨num++[n],fst,by simp,S4,by simp⟩
   ·have hhas:Maps.has D (lit num.length)=false:=by
     cases hx:Maps.has D (lit num.length) with
     |false=>rfl
     |true=>exact absurd ((hh _).1 hx) hm
    have HPL:Hid (plainElem (H:=Unit) Tryz.prog 3 (.int .i64 (fst.length:Int))=some (.lit (.int .i64 (fst.length:Int)),[])):=plainElem_int Tryz.underlying3 (by simp[Lit.wf,IntKind.min,IntKind.max,IntKind.signed,IntKind.bits];omega);have HFN:Hid ((fst.map lit).length<maxLen):=by unfold Hid maxLen;rw[List.length_map];omega
    have HPUT:=qaa (fun(w4:World) h1 (t4:w3.mapTurned w4 w.heap.size)=>S3.out.put (w':=w4) hm (HKL.out _ hi) hh ha HOWN.out h1 t4);go_wp2_with (first
     |(at_lookup;refine wpList_lookup_own_ok_int _ rfl _ _ 192 rfl 3 3 .i64 (int_keyed Tryz.underlying3) Tryz.underlying192 Tryz.underlying3 (hz0 _) w.heap.size _ D rfl HOWN.out _ _ rfl HK1.out ?_;intro c hat hwc;clear hat hwc)
     |(at_mapUpdate;refine wpList_mapUpdate_in _ rfl _ _ _ 192 rfl 3 3 (int_keyed Tryz.underlying3) Tryz.underlying192 _ w.heap.size _ D rfl HOWN.out HFN.out _ _ _ rfl rfl HK1.out _ [] HPL.out ?_;intro w4 h4 t4;have S4:=qaa (HPUT.out w4 h4 t4);have O5:=qaa S4.out.o5;have HN5:=qaa (qbi w4 num.length 3);have HS5:Hid (w.heap.size≤(w4.alloc (.cells #[.int .i64 (num.length:Nat)] 3)).heap.size):=S4.out.s5;clear h4 t4)
     |(at_builtin;refine qac rfl (.tmp 34) (.tmp 36) 22 rfl w.heap.size 3 i3 (.int .i64 0) 1 8 Tryz.underlying22 hi3 hz30 hz31 hz32 rfl (by decide) _ fst.length (qab fst) rfl O5.out ⟨w4.heap.size,0,none⟩ 1 1 [.int .i64 (num.length:Nat)] rfl rfl HN5.out (by simp[Value.oneCell']) (by decide) (by unfold maxLen;omega) (by omega) HS5.out ?_;intro v6 w6 g1 g2;obtain⟨⟨⟨u6,q1⟩,q2⟩,S6⟩:=S4.out.app hi g1 g2;have S6:=qaa S6;clear g1 g2))
    go_roundg (N-(num.length+1)+1)
    case measure=>have:=HG.out;omega
    case rel=>exact⟨num++[fst.length],fst++[num.length],by simp,S6,by simp⟩
  ·have hi':¬(num.length:Int)<(N:Int):=by omega
   go_wp2;go_ret2;refine⟨⟨_,_,rfl,num,fst,?_⟩,S.out.bel⟩;have e:num.length=N:=by omega
   have h1:=S.out.o1;rw[e,Nat.sub_self,List.replicate_zero,List.append_nil] at h1;exact⟨h1,S.out.o2,S.out.ap,e,by have:=S.out.nf;rw[e] at this;exact this⟩
set_option maxRecDepth 100000 in
set_option maxHeartbeats 4000000 in
theorem qkz (N:Nat) (c0:Value) (look:Nat→Value) (lit:Nat→Lit) (w:World) (hN:N≤4294967296) (hk:∀i,i<N→keyOf Tryz.prog 5 (look i)=some (lit i)) (hkl:∀i,i<N→WideAt.IsKeyLit (lit i))
 (hc:∀i,i<N→∀W,Below w.heap.size w W→Calls Tryz.prog 112 #[.int .i64 (i:Nat),c0] W fun e w'=>e=.returned (look i)∧Below W.heap.size W w'):
 Calls Tryz.prog 111 #[.int .i64 (N:Nat),.func (.func 112) #[] #[c0]] w fun e w'=>(∃v1 v2,e=.returned (.tuple #[v1,v2])∧∃num fst,qbd w.heap.size lit N v1 v2 num fst w')∧Below w.heap.size w w':=by
 obtain⟨i3,hi3,hz30,hz31,hz32⟩:=info_parts Tryz.info3n;have hz0:∀W,(zeroValue 3).run Tryz.prog W=.ok (.int .i64 0) W:=fun W=>Tryz.zeroValue3 W
 have hmm:∀W:World,(Instr.makeMap 186 none).run Tryz.prog W=.ok (.map (some W.heap.size)) (W.alloc (.map #[] 0)):=fun W=>rfl
 have HC:=qaa hc;have HK:=qaa hk;have HKL:=qaa hkl;clear hc hk hkl;have S0:=qaa (fun w2 h1 h2=>NmS.start 5 w lit N w2 h1 h2);go_enter Tryz.func111,Tryz.ntmps111;go_wp2_with (at_make;refine wpList_make_full _ rfl (.tmp 12) (.tmp 12) 22 rfl w.heap.size 3 i3 (.int .i64 0) 1 Tryz.underlying22 hi3 hz30 hz31 .i64 .i64 _ _ N rfl rfl rfl rfl (by rw[hz32];omega) (by unfold maxLen;omega) (by simp) ?_;intro w2 h1 h2;have S1:=qaa (S0.out w2 h1 h2);clear h1 h2);go_loopg [5,15] (N+1) (fun g v2 x wr=>∃(num fst:List Nat),x=.int .i64 (num.length:Nat)∧Hid (NmS 5 w lit N w.heap.size (.slice (some ⟨w.heap.size+1,0,none⟩) N N) v2 num fst wr)∧N-num.length<g)
 case atStart=>exact⟨[],[],rfl,S1,by simp⟩
 case round=>
  obtain⟨num,fst,rfl,S,hg⟩:=hrel;have HG:=qaa hg;clear hg S1 S0;have hle:=S.out.le;obtain⟨a2,k2,hv2,_⟩:=qag S.out.o2;subst hv2;by_cases hi:num.length<N
  ·have hi':(num.length:Int)<(N:Int):=by omega
   have H1:=qaa (HC.out num.length hi wr S.out.bel);go_wp2_with (fail);refine H1.out.mono ?_;rintro e w3 ⟨rfl,x3⟩;clear H1;have S3:=qaa (S.out.below x3);clear x3;obtain⟨D,hown,hh,ha⟩:=S3.out.map;have HK1:=qaa (HK.out num.length hi);have HOWN:=qaa hown;have HA:=qaa ha;have hfl:fst.length≤num.length:=by
    have h:=S3.out.nf;exact qax num.length fst.length (gN fst) h.fstlt (fun i h1 j h2 e=>by rw[←h.numfst i h1,←h.numfst j h2,e])
   by_cases hm:lit num.length∈fst.map lit
   ·have hhas:Maps.has D (lit num.length)=true:=(hh _).2 hm
    have HHIT:Hid (∀c:Int,D.atKey (lit num.length) (.lit (.int .i64 0))=.lit (.int .i64 c)→∃n,n<fst.length∧lit (gN fst n)=lit num.length∧c=(n:Int)):=fun c hc=>by
     obtain⟨n,hn,e,rfl⟩:=qbz HA.out hc hm;rw[List.length_map] at hn;refine⟨n,hn,?_,rfl⟩;rw[←e,List.getElem_map,qah hn]
    obtain⟨⟨u1,q1⟩,q2⟩:=S3.out.slot hi;have HST:=qaa (fun n hn he=>S3.out.hit (n:=n) hi hn he);go_wp2_with (at_lookup;refine wpList_lookup_own_ok_int _ rfl _ _ 186 rfl 5 3 .i64 (int_keyed Tryz.underlying5) Tryz.underlying186 Tryz.underlying3 (hz0 _) w.heap.size _ D rfl HOWN.out _ _ rfl HK1.out ?_;intro c hat hwc;obtain⟨n,hn,hne,rfl⟩:=HHIT.out c hat;have S4:=qaa (HST.out n hn hne);clear hat hwc hn hne);go_roundg (N-(num.length+1)+1)
    case measure=>have:=HG.out;omega
    case rel=>exact⟨num++[n],fst,by simp,S4,by simp⟩
   ·have hhas:Maps.has D (lit num.length)=false:=by
     cases hx:Maps.has D (lit num.length) with
     |false=>rfl
     |true=>exact absurd ((hh _).1 hx) hm
    have HPL:Hid (plainElem (H:=Unit) Tryz.prog 3 (.int .i64 (fst.length:Int))=some (.lit (.int .i64 (fst.length:Int)),[])):=plainElem_int Tryz.underlying3 (by simp[Lit.wf,IntKind.min,IntKind.max,IntKind.signed,IntKind.bits];omega);have HFN:Hid ((fst.map lit).length<maxLen):=by unfold Hid maxLen;rw[List.length_map];omega
    have HPUT:=qaa (fun(w4:World) h1 (t4:w3.mapTurned w4 w.heap.size)=>S3.out.put (w':=w4) hm (HKL.out _ hi) hh ha HOWN.out h1 t4);go_wp2_with (first
     |(at_lookup;refine wpList_lookup_own_ok_int _ rfl _ _ 186 rfl 5 3 .i64 (int_keyed Tryz.underlying5) Tryz.underlying186 Tryz.underlying3 (hz0 _) w.heap.size _ D rfl HOWN.out _ _ rfl HK1.out ?_;intro c hat hwc;clear hat hwc)
     |(at_mapUpdate;refine wpList_mapUpdate_in _ rfl _ _ _ 186 rfl 5 3 (int_keyed Tryz.underlying5) Tryz.underlying186 _ w.heap.size _ D rfl HOWN.out HFN.out _ _ _ rfl rfl HK1.out _ [] HPL.out ?_;intro w4 h4 t4;have S4:=qaa (HPUT.out w4 h4 t4);have O5:=qaa S4.out.o5;have HN5:=qaa (qbi w4 num.length 3);have HS5:Hid (w.heap.size≤(w4.alloc (.cells #[.int .i64 (num.length:Nat)] 3)).heap.size):=S4.out.s5;clear h4 t4)
     |(at_builtin;refine qac rfl (.tmp 34) (.tmp 36) 22 rfl w.heap.size 3 i3 (.int .i64 0) 1 8 Tryz.underlying22 hi3 hz30 hz31 hz32 rfl (by decide) _ fst.length (qab fst) rfl O5.out ⟨w4.heap.size,0,none⟩ 1 1 [.int .i64 (num.length:Nat)] rfl rfl HN5.out (by simp[Value.oneCell']) (by decide) (by unfold maxLen;omega) (by omega) HS5.out ?_;intro v6 w6 g1 g2;obtain⟨⟨⟨u6,q1⟩,q2⟩,S6⟩:=S4.out.app hi g1 g2;have S6:=qaa S6;clear g1 g2))
    go_roundg (N-(num.length+1)+1)
    case measure=>have:=HG.out;omega
    case rel=>exact⟨num++[fst.length],fst++[num.length],by simp,S6,by simp⟩
  ·have hi':¬(num.length:Int)<(N:Int):=by omega
   go_wp2;go_ret2;refine⟨⟨_,_,rfl,num,fst,?_⟩,S.out.bel⟩;have e:num.length=N:=by omega
   have h1:=S.out.o1;rw[e,Nat.sub_self,List.replicate_zero,List.append_nil] at h1;exact⟨h1,S.out.o2,S.out.ap,e,by have:=S.out.nf;rw[e] at this;exact this⟩
end Go.Proofs.YtdgoilkgplnhfaaGreat
namespace Go.Proofs.YtdgoilkgplnhfaaGreat
structure RcS (D:DF) (fst St NX:List Nat) (i j:Nat):Prop where
 s0:0<St.length∧gN St 0=0
 nd:∀a,a<St.length→∀b,b<St.length→gN St a=gN St b→a=b
 lt:∀a,a<St.length→gN St a<D.n
 len:NX.length=i*fst.length+j
 jl:j≤fst.length
 il:i≤St.length
 nxt:∀q,q<NX.length→gN NX q<St.length∧gN St (gN NX q)=D.step (gN St (q/fst.length)) (gN fst (q%fst.length))
 occ:∀v,0<v→v<St.length→∃q,q<NX.length∧gN NX q=v∧q/fst.length<v
 fo:∀q,q<NX.length→∀v,0<v→v<gN NX q→∃q',q'<q∧gN NX q'=v
section
variable {D:DF} {fst St NX:List Nat} {i j:Nat}
theorem RcS.start (hn:0<D.n):RcS D fst [0] [] 0 0:=by
 refine⟨⟨by simp,rfl⟩,fun a ha b hb _=>by simp at ha hb;omega,fun a ha=>?_,by simp,by omega,by omega,fun q hq=>by simp at hq,fun v h0 hv=>by simp at hv;omega,fun q hq=>by simp at hq⟩;have:a=0:=by simp at ha;omega
 subst this;exact hn
theorem qbt {i j M:Nat} (h:j<M):(i*M+j)/M=i∧(i*M+j)%M=j:=by
 have h0:0<M:=by omega
 rw[Nat.mul_comm];exact⟨by rw[Nat.mul_add_div h0,Nat.div_eq_of_lt h,Nat.add_zero],by rw[Nat.mul_add_mod,Nat.mod_eq_of_lt h]⟩
theorem RcS.old (h:RcS D fst St NX i j) (hj:j<fst.length) {v:Nat} (hv:v<St.length) (he:gN St v=D.step (gN St i) (gN fst j)):RcS D fst St (NX++[v]) i (j+1):=by
 have hl:(NX++[v]).length=NX.length+1:=by simp
 have hd:=qbt (i:=i) hj;rw[←h.len] at hd;refine⟨h.s0,h.nd,h.lt,by rw[hl,h.len];omega,hj,h.il,fun q hq=>?_,fun x h0 hx=>?_,fun q hq x h0 hx=>?_⟩
 ·by_cases h2:q<NX.length
  ·rw[qau h2];exact h.nxt q h2
  ·obtain rfl:q=NX.length:=by omega
   rw[qat,hd.1,hd.2];exact⟨hv,he⟩
 ·obtain⟨q,h1,h2,h3⟩:=h.occ x h0 hx
  exact⟨q,by omega,by rw[qau h1];exact h2,h3⟩
 ·by_cases h2:q<NX.length
  ·rw[qau h2] at hx
   obtain⟨q',k1,k2⟩:=h.fo q h2 x h0 hx;exact⟨q',k1,by rw[qau (by omega)];exact k2⟩
  ·obtain rfl:q=NX.length:=by omega
   rw[qat] at hx;obtain⟨q',k1,k2,_⟩:=h.occ x h0 (by omega);exact⟨q',k1,by rw[qau k1];exact k2⟩
theorem RcS.new (h:RcS D fst St NX i j) (hi:i<St.length) (hj:j<fst.length) {x:Nat} (hx:x<D.n) (hne:∀a,a<St.length→gN St a≠x) (he:x=D.step (gN St i) (gN fst j)):RcS D fst (St++[x]) (NX++[St.length]) i (j+1):=by
 have hl:(NX++[St.length]).length=NX.length+1:=by simp
 have hls:(St++[x]).length=St.length+1:=by simp
 have hd:=qbt (i:=i) hj;rw[←h.len] at hd;have hrow:∀q,q<NX.length→q/fst.length<St.length:=fun q hq=>by
  have h0:0<fst.length:=by omega
  have:q/fst.length≤i:=by
   have h1:q≤i*fst.length+j:=by have:=h.len;omega
   have h2:=Nat.div_le_div_right (c:=fst.length) h1;rw[(qbt (i:=i) hj).1] at h2;exact h2
  omega
 have gl:∀a,a<St.length→gN (St++[x]) a=gN St a:=fun a ha=>qau ha
 refine⟨⟨by omega,by rw[gl 0 h.s0.1];exact h.s0.2⟩,fun a ha b hb e=>?_,fun a ha=>?_,by rw[hl,h.len];omega,hj,by have:=h.il;omega,fun q hq=>?_,fun v h0 hv=>?_,fun q hq v h0 hv=>?_⟩
 ·by_cases h1:a<St.length
  ·by_cases h2:b<St.length
   ·rw[gl a h1,gl b h2] at e;exact h.nd a h1 b h2 e
   ·obtain rfl:b=St.length:=by omega
    rw[gl a h1,qat] at e;exact absurd e (hne a h1)
  ·obtain rfl:a=St.length:=by omega
   by_cases h2:b<St.length
   ·rw[gl b h2,qat] at e;exact absurd e.symm (hne b h2)
   ·omega
 ·by_cases h1:a<St.length
  ·rw[gl a h1];exact h.lt a h1
  ·obtain rfl:a=St.length:=by omega
   rw[qat];exact hx
 ·by_cases h2:q<NX.length
  ·obtain⟨k1,k2⟩:=h.nxt q h2
   rw[qau h2,gl _ k1,gl _ (hrow q h2)];exact⟨by omega,k2⟩
  ·obtain rfl:q=NX.length:=by omega
   rw[qat,qat,hd.1,hd.2,gl i hi];exact⟨by omega,he⟩
 ·by_cases h2:v<St.length
  ·obtain⟨q,k1,k2,k3⟩:=h.occ v h0 h2
   exact⟨q,by omega,by rw[qau k1];exact k2,k3⟩
  ·obtain rfl:v=St.length:=by omega
   exact⟨NX.length,by omega,qat _ _,by rw[hd.1];exact hi⟩
 ·by_cases h2:q<NX.length
  ·rw[qau h2] at hv
   obtain⟨q',k1,k2⟩:=h.fo q h2 v h0 hv;exact⟨q',k1,by rw[qau (by omega)];exact k2⟩
  ·obtain rfl:q=NX.length:=by omega
   rw[qat] at hv;obtain⟨q',k1,k2,_⟩:=h.occ v h0 hv;exact⟨q',k1,by rw[qau k1];exact k2⟩
theorem RcS.row (h:RcS D fst St NX i fst.length) (hi:i<St.length):RcS D fst St NX (i+1) 0:=
 ⟨h.s0,h.nd,h.lt,by rw[h.len,Nat.succ_mul];omega,Nat.zero_le _,hi,h.nxt,h.occ,h.fo⟩
def rcD (D:DF) (col fst St NX:List Nat):DF:=⟨St.length,fst.length,gN col,fun s c=>gN NX (s*fst.length+c),fun s=>D.ou (gN St s)⟩
theorem qcd {s c n M:Nat} (hs:s<n) (hc:c<M):s*M+c<n*M:=by
 have:(s+1)*M≤n*M:=Nat.mul_le_mul_right M hs;rw[Nat.succ_mul] at this;omega
theorem RcS.done (h:RcS D fst St NX St.length 0) {col:List Nat} (hc:qbf D.bc 256 (gN col) (gN fst) fst.length):(rcD D col fst St NX).Pre∧∀t,Txt t→(rcD D col fst St NX).lab 0 t=D.lab 0 t:=by
 have hlen:NX.length=St.length*fst.length:=by have:=h.len;omega
 have hM:0<fst.length:=(hc.zero (by decide)).2;have hst:∀s,s<St.length→∀b,b<256→(rcD D col fst St NX).step s b<St.length∧gN St ((rcD D col fst St NX).step s b)=D.step (gN St s) b:=fun s hs b hb=>by
  have hcl:=hc.numlt b hb;have hq:s*fst.length+gN col b<NX.length:=by rw[hlen];exact qcd hs hcl
  obtain⟨k1,k2⟩:=h.nxt _ hq;obtain⟨e1,e2⟩:=qbt (i:=s) hcl;rw[e1,e2] at k2;refine⟨k1,k2.trans ?_⟩;unfold DF.step;rw[hc.lk b hb]
 have hrun:∀t,Txt t→∀s,s<St.length→(rcD D col fst St NX).run s t<St.length∧gN St ((rcD D col fst St NX).run s t)=D.run (gN St s) t:=by
  intro t
  induction t with
  |nil=>intro _ s hs;exact⟨hs,rfl⟩
  |cons b t ih=>
   intro ht s hs;obtain⟨k1,k2⟩:=hst s hs b ht.tail.1;rw[DF.run_cons,DF.run_cons,←k2];exact ih ht.tail.2 _ k1
 refine⟨⟨⟨h.s0.1,hM,fun b hb=>hc.numlt b hb,fun s hs c hc'=>(h.nxt _ (by rw[hlen];exact qcd hs hc')).1⟩,fun s hs=>?_,fun b hb v hv=>hc.occ hb hv,fun c hc'=>⟨gN fst c,hc.fstlt c hc',hc.numfst c hc'⟩,fun s hs c hc' v h0 hv=>?_⟩,fun t ht=>?_⟩
 ·induction s using Nat.strongRecOn with
  |_ s ih=>
   by_cases h0:s=0
   ·subst h0;exact⟨[],Txt.nil,rfl⟩
   ·obtain⟨q,k1,k2,k3⟩:=h.occ s (by omega) hs
    have hqc:q%fst.length<fst.length:=Nat.mod_lt _ hM;obtain⟨t,t1,t2⟩:=ih (q/fst.length) k3 (Nat.lt_trans k3 hs);refine⟨t++[gN fst (q%fst.length)],t1.snoc (hc.fstlt _ hqc),?_⟩;rw[DF.run_snoc,t2];show gN NX (q/fst.length*fst.length+gN col (gN fst (q%fst.length)))=s;rw[hc.numfst _ hqc,Nat.mul_comm,Nat.div_add_mod];exact k2
 ·have hs2:s<St.length:=hs
  have hc2:c<fst.length:=hc';have hq:s*fst.length+c<NX.length:=by rw[hlen];exact qcd hs2 hc2
  obtain⟨q',k1,k2⟩:=h.fo _ hq v h0 hv;have hqc:q'%fst.length<fst.length:=Nat.mod_lt _ hM;refine⟨q'/fst.length,q'%fst.length,(Nat.div_lt_iff_lt_mul hM).2 (show q'<St.length*fst.length by omega),hqc,?_,?_⟩
  ·obtain⟨e1,e2⟩:=qbt (i:=s) hc2
   have h1:=Nat.div_le_div_right (c:=fst.length) (Nat.le_of_lt k1);rw[e1] at h1;rcases Nat.lt_or_ge (q'/fst.length) s with h2|h2
   ·exact .inl h2
   ·have h3:q'/fst.length=s:=by omega
    refine .inr ⟨h3,?_⟩;have h4:=Nat.div_add_mod q' fst.length;rw[h3,Nat.mul_comm] at h4;omega
  ·show gN NX (q'/fst.length*fst.length+q'%fst.length)=v
   rw[Nat.mul_comm,Nat.div_add_mod];exact k2
 ·have:=(hrun t ht 0 h.s0.1).2
  unfold DF.lab;show D.ou (gN St _)=_;rw[this,h.s0.2]
end
end Go.Proofs.YtdgoilkgplnhfaaGreat

