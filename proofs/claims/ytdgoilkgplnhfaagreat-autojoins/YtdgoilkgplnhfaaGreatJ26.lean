/-
  Match by its contract. Condition: lists and the text are no longer than a process can hold.
-/
import Derived.Deep.RegionWith
import Derived.Test.YtdgoilkgplnhfaaGreatJ24
import Derived.Test.YtdgoilkgplnhfaaGreatJ25
import Derived.Test.YtdgoilkgplnhfaaGreatJ14
import Derived.Test.YtdgoilkgplnhfaaGreatJ15
import Derived.Laws.CopyOwn
import Derived.Test.YtdgoilkgplnhfaaGreatJ13
namespace Go.Proofs.YtdgoilkgplnhfaaGreat
open Go.RowKit Go.Lib
def stF (L:List Pc) (f:Nat→Bool) (c:UInt8):Nat→Bool:=clF L (afF L f ((c.toNat:Nat):Int) L.length) L.length
def mtF (L:List Pc) (s:By):Nat→Bool:=s.foldl (stF L) (clF L (upd (fun _=>false) 0) L.length)
theorem qho (L:List Pc) (s:By) (c:UInt8):mtF L (s++[c])=stF L (mtF L s) c:=by simp[mtF]
set_option maxRecDepth 100000 in
theorem qee {ops:Array Oper} {rest:List Oper} {o:Oper} {a:Act} {w:World} {Q:Exit→Act→World→Prop} (hg:o.guard=none) (ho:o.op=.build 121 #[(0,.const (.bool true))])
 (h:wpList Tryz.prog ops Q rest (a.put o.dst (.agg (mk (upd (fun _=>false) 0)))) w):wpList Tryz.prog ops Q (o::rest) a w:=by
 have e0:((#[(0,Operand.const (.bool true))]:Array (Nat×Operand)).map fun(i,x)=>(i,a.eval x)).toList=[(0,.bool true)]:=by simp[Act.eval]
 have e1:(Tryz.prog.built 121 [(0,.bool true)]).isSome=true:=by kernel_rfl
 have e2:(Tryz.prog.built 121 [(0,.bool true)]).getD #[]=mk (upd (fun _=>false) 0):=by kernel_rfl
 refine wpList_build hg 121 _ ho (by rw[e0];exact e1) ?_;rw[e0,e2];exact h
def MaIs (L:List Pc) (s:By) (e:Ending):Prop:=(Rt L∧e=.returned (.tuple #[.bool (mtF L s L.length),.int .i64 0]))∨(¬Rt L∧e=.returned (.tuple #[.bool false,.int .i64 1]))
set_option maxRecDepth 100000 in
set_option maxHeartbeats 4000000 in
theorem qfv (ao:Option Addr) (cap:Nat) (D:List PD) (s:By) (w:World) (hs:s.length≤140737488351232) (hLen:∀d∈D,d.p.set.length≤140737488351232) (hat:qe2 w ao D):
 Calls Tryz.prog 31 #[.slice ao D.length cap,.string ⟨s.toArray⟩] w fun e w'=>MaIs (D.map PD.p) s e∧Below w.heap.size w w':=by
 have HR:=qaa (qii ao cap D w hLen hat);have HAT:=qaa hat;have HLEN:=qaa hLen;clear hat hLen;go_enter Tryz.func31,Tryz.ntmps31;go_wp2_with (fail);refine HR.out.mono ?_;rintro e w1 ⟨h1,x1⟩;have X1:=qaa x1;clear x1;rcases h1 with⟨hp,rfl⟩|⟨hp,rfl⟩
 ·have HRT:=qaa hp
  obtain⟨hzv,hsz⟩:=zero_of_info Tryz.info121;have hl:D.length≤64:=by simpa using hp.1
  have HZS:=qaa (qaq fun _=>false);obtain⟨z,hz⟩:∃z,Hid (z=mk fun _=>false):=⟨_,rfl⟩;rw[←hz.out] at hzv HZS;clear hp;obtain⟨n,hn⟩:∃n,Hid (n=mk (clF (D.map PD.p) (upd (fun _=>false) 0) D.length)):=⟨_,rfl⟩;have HI:Hid ((Tryz.prog.info? 121).map (·.size)=some n.size):=by unfold Hid;rw[hn.out,hsz,qaq]
  have HZ2:Hid (z.size=n.size):=by unfold Hid;rw[hn.out,HZS.out,qaq]
  have HAL:Hid (n.all (·.oneCell')=true):=by unfold Hid;rw[hn.out];exact qcy _
  obtain⟨m0,hm0⟩:∃m,Hid (m=mk (upd (fun _=>false) 0)):=⟨_,rfl⟩;have HB78:=qaa (fun(ops:Array Oper) (rest:List Oper) (o:Oper) (a:Act) (w:World) (Q:Exit→Act→World→Prop) (hg:o.guard=none) (ho:o.op=.build 121 #[(0,.const (.bool true))]) (h:wpList Tryz.prog ops Q rest (a.put o.dst (.agg m0)) w)=>qee hg ho (by rw[hm0.out] at h;exact h));have HCL:=qaa (fun W (x:Below w.heap.size w W)=>qei ao cap D (upd (fun _=>false) 0) W hl (HAT.out.below x));rw[←hn.out,←hm0.out] at HCL;have HTK:=qaa qij;go_wp2_with (fail);refine(HTK.out w1).mono ?_;rintro e w2 ⟨rfl,hw2⟩;have B2:Hid (w2.heap[w1.heap.size]? =some (.cells qn1 149 (0,0))):=by unfold Hid;rw[hw2];exact heap_alloc_new _ _
  have X2:Hid (Below w.heap.size w w2):=by unfold Hid;rw[hw2];exact al X1.out _
  clear hw2;go_wp2_with (first
   |(refine HB78.out _ _ _ _ _ _ rfl rfl ?_)
   |(go_at_call 71;refine(HCL.out _ X2.out).mono ?_;rintro e w3 ⟨rfl,x3⟩;have X3:=qaa (bt X2.out x3 (Nat.le_refl _));have B3:=qaa ((x3.block _ (lt_of_block B2.out)).trans B2.out);clear x3)
   |(refine wpList_store_row rfl 121 (.tmp 7) (.tmp 15) rfl w3.heap.size n rfl rfl 121 z (heap_alloc_new _ _) HI.out HZ2.out HAL.out ?_;rw[World.setRow_alloc_new]))
  have HE0:Hid (n=mk (mtF (D.map PD.p) (s.take 0))):=by unfold Hid mtF;rw[hn.out,List.take_zero,List.foldl_nil,List.length_map]
  have HAF:=qaa (fun f b W (x:Below w.heap.size w W) (hT:W.heap[w1.heap.size]? =some (.cells qn1 149 (0,0)))=>qjm ao cap w1.heap.size D f b W hl (fun d hd=>HRT.out.2.1 _ (List.mem_map.2 ⟨d,hd,rfl⟩)) HLEN.out (HAT.out.below x) hT);have BN:=qaa (heap_alloc_new w3 (.cells n 121));have XN:=qaa (al X3.out (.cells n 121));have BT:=qaa (((al (Below.refl _ _) (.cells n 121):Below w3.heap.size w3 (w3.alloc (.cells n 121))).block _ (lt_of_block B3.out)).trans B3.out);have HLT:Hid (w1.heap.size<w3.heap.size):=lt_of_block B3.out;have HW3:=qaa X3.out.size;clear HCL HB78 HTK;go_loopw [18] (fun x wr=>∃k:Nat,k≤s.length∧x=.int .i64 k∧Hid (wr.heap[w3.heap.size]? =some (.cells (mk (mtF (D.map PD.p) (s.take k))) 121 (0,0)))∧Hid (wr.heap[w1.heap.size]? =some (.cells qn1 149 (0,0)))∧Hid (Below w.heap.size w wr)) (fun x _=>s.length-(RowKit.intOf x).toNat)
  case atStart=>exact⟨0,Nat.zero_le _,rfl,by rw[←HE0.out];exact BN,BT,XN⟩
  case round=>
   obtain⟨k,hk,rfl,BM,BT',X⟩:=hrel;rename World=>wr
   by_cases hlt:k<s.length
   ·have hlt':(k:Int)<(s.length:Int):=by omega
    obtain⟨c,hcc⟩:∃c,s[k]=c:=⟨_,rfl⟩;have hg':∀hk,(⟨s.toArray⟩:ByteArray)[k]'hk=c:=fun _=>hcc
    have HTS:Hid (s.take (k+1)=s.take k++[c]):=by unfold Hid;rw[←hcc];exact List.take_succ_eq_append_getElem hlt
    have HI1:Hid ((Tryz.prog.info? 121).map (·.size)=some (mk (mtF (D.map PD.p) (s.take k))).size):=by unfold Hid;rw[hsz,qaq]
    have HA1:=qaa (fun W (x:Below w.heap.size w W) hT=>HAF.out (mtF (D.map PD.p) (s.take k)) ((c.toNat:Nat):Int) W x hT);obtain⟨m,hm⟩:∃m,Hid (m=mk (mtF (D.map PD.p) (s.take k))):=⟨_,rfl⟩;rw[←hm.out] at BM HI1 HA1;have HE1:Hid (mk (clF (D.map PD.p) (afF (D.map PD.p) (mtF (D.map PD.p) (s.take k)) ((c.toNat:Nat):Int) D.length) D.length)=mk (mtF (D.map PD.p) (s.take (k+1)))):=by unfold Hid;rw[HTS.out,qho,stF,List.length_map]
    obtain⟨q,hq⟩:∃q,Hid (q=mk (mtF (D.map PD.p) (s.take (k+1)))):=⟨_,rfl⟩;rw[HE1.out,←hq.out] at HA1;have HI2:Hid ((Tryz.prog.info? 121).map (·.size)=some q.size):=by unfold Hid;rw[hq.out,hsz,qaq]
    have HZ3:Hid (m.size=q.size):=by unfold Hid;rw[hm.out,hq.out,qaq,qaq]
    have HAL3:Hid (q.all (·.oneCell')=true):=by unfold Hid;rw[hq.out];exact qcy _
    have w2:IntKind.i64.wrap (c.toNat:Int)=(c.toNat:Int):=by have:=c.toNat_lt;simp[IntKind.wrap,IntKind.bits,IntKind.signed];omega
    clear hzv hsz HTS HE1;go_wp2;refine wp_region_any (by kernel_rfl) ?_;change wpAny _ _ _ _ _ _ _ (World.drew _);refine wpAny_take (i:=0) (v:=.slice ao D.length cap) rfl (by kernel_rfl) (by kernel_rfl) (by kernel_rfl) (fun _ _ _ h=>h) (Or.inl ⟨by rfl,fun w=>by go_simp⟩) ?_;refine wpAny_take (i:=1) (v:=.slice (some ⟨w1.heap.size,0,none⟩) 6 6) rfl (by kernel_rfl) (by kernel_rfl) (by kernel_rfl) (fun _ _ _ h=>h) (Or.inl ⟨by rfl,fun w=>by go_simp⟩) ?_;refine wpAny_take (i:=3) (v:=.string ⟨s.toArray⟩) rfl (by kernel_rfl) (by kernel_rfl) (by kernel_rfl) (fun _ _ _ h=>h) (Or.inl ⟨by rfl,fun w=>by go_simp⟩) ?_;refine wpAny_take (i:=4) (v:=.int .i64 k) rfl (by kernel_rfl) (by kernel_rfl) (by kernel_rfl) (fun _ _ _ h=>h) (Or.inl ⟨by rfl,fun w=>by go_simp⟩) ?_;refine wpAny_take (i:=5) (v:=.int .u8 (c.toNat:Nat)) rfl (by kernel_rfl) (by kernel_rfl) (by kernel_rfl) (fun _ _ _ h=>h) (Or.inl ⟨by rfl,fun w=>by go_simp⟩) ?_;refine wpAny_take (i:=6) (v:=.int .i64 (c.toNat:Nat)) rfl (by kernel_rfl) (by kernel_rfl) (by kernel_rfl) (fun _ _ _ h=>h) (Or.inl ⟨by rfl,fun w=>by go_simp⟩) ?_;refine wpAny_ready (rs:=[2]) (by kernel_rfl) (by simp) ?_;refine AllReady.cons rfl (fun K hK=>?_) AllReady.nil;rw[if_pos (by rfl)];refine wp_load_row 121 (.tmp 7) rfl w3.heap.size rfl 121 m (0,0) _ BM.out Tryz.underlying121 rfl HI1.out ?_;refine hK _ _ ?_;clear hK K;refine wpAny_ready (rs:=[7]) (by kernel_rfl) (by simp) ?_;refine AllReady.cons rfl (fun K hK=>?_) AllReady.nil;go_simp;refine(HA1.out _ (X.out.trans (below_drewN _ _ 1)) BT'.out).mono ?_;rintro e w5 ⟨rfl,x5⟩;have X5:=qaa (bt X.out ((Below.refl _ _).drew.trans x5) (Nat.le_refl _));have BM5:=qaa ((x5.block _ (lt_of_block BM.out)).trans BM.out);have BT5:=qaa ((x5.block _ (lt_of_block BT'.out)).trans BT'.out);clear x5;refine hK _ _ ?_;clear hK K;refine wpAny_ready (rs:=[8]) (by kernel_rfl) (by simp) ?_;refine AllReady.cons rfl (fun K hK=>?_) AllReady.nil;rw[if_pos (by rfl)];refine wp_store_row 121 (.tmp 7) (.tmp 28) rfl w3.heap.size q rfl rfl 121 m BM5.out HI2.out HZ3.out HAL3.out ?_;refine hK _ _ ?_;clear hK K;refine wpAny_done (by kernel_rfl) ?_ _;have BM6:=qaa (setRow_heap w5 w3.heap.size m q 121 (0,0) BM5.out);have hk6:Kept (fun i=>i=w3.heap.size) w5 (w5.setRow w3.heap.size q):=⟨rfl,rfl,rfl,by simp[World.setRow],fun i _ hi=>by have hne:¬w3.heap.size=i:=fun h=>hi h.symm;simp[World.setRow,Array.getElem?_modify,hne]⟩;have BT6:=qaa ((hk6.block _ (lt_of_block BT5.out) (by have:=HLT.out;omega)).trans BT5.out);have X6:=qaa (below_setRow X5.out HW3.out q);clear hk6;generalize w5.setRow w3.heap.size q=w6 at *;go_wp2;go_roundw
    case rel=>exact⟨k+1,by omega,by go_num,by rw[←hq.out];exact BM6,BT6,X6⟩
    case measure=>simp[RowKit.intOf];omega
   ·have hnl:¬(k:Int)<(s.length:Int):=by omega
    have hk':k=s.length:=by omega
    subst hk';rw[List.take_length] at BM;have h65:(D.length:Int)<65:=by omega
    have c0:wr.cell? ⟨w3.heap.size,D.length,none⟩=some (.bool (mtF (D.map PD.p) s D.length)):=by rw[cell_of_row _ _ _ _ _ _ BM.out];exact qb8 _ _ (by omega)
    have HF:Hid (MaIs (D.map PD.p) s (.returned (.tuple #[.bool (mtF (D.map PD.p) s D.length),.int .i64 0]))):=.inl ⟨HRT.out,by rw[List.length_map]⟩;generalize mtF (D.map PD.p) s D.length=r at *;go_wp2;go_ret2;exact⟨HF.out,X.out⟩
 ·have HF:=qaa hp
  clear hp;go_wp2;go_ret2;exact⟨.inr ⟨HF.out,rfl⟩,X1.out⟩
end Go.Proofs.YtdgoilkgplnhfaaGreat
namespace Go.Proofs.YtdgoilkgplnhfaaGreat
section
variable (L:List Pc)
def mM (i:Nat):Bool:=qa8 (L.getD i zPc).kind
def mT (i:Nat) (c:UInt8):Bool:=tkB (L.getD i zPc) ((c.toNat:Nat):Int)
def rm:Nat→By→Bool
 |0,[]=>true
 |0,_::_=>false
 |i+1,[]=>mM L i&&rm i []
 |i+1,c::v=>if mM L i then rm i (c::v)||(mT L i c&&rm (i+1) v) else mT L i c&&rm i v
termination_by i v=>(v.length,i)
end
theorem qfw {L:List Pc} {f g:Nat→Bool} {b b':Int}:∀(n:Nat),(∀j,j<n→f j=g j)→(∀j,j<n→tkB (L.getD j zPc) b=tkB (L.getD j zPc) b')→afF L f b n=afF L g b' n
 |0,_,_=>rfl
 |n+1,h,k=>by
  have ih:=qfw n (fun j hj=>h j (by omega)) (fun j hj=>k j (by omega));have e1:=h n (by omega);have e2:=k n (by omega);unfold zPc at e2;unfold afF;rw[ih,e1,e2]
def plL (f:Nat→Bool):List Bool:=(List.range 65).map f
def plF (B:List Bool):Nat→Bool:=fun i=>B.getD i false
theorem qg8 (f:Nat→Bool):(plL f).length=65:=by simp[plL]
theorem qjn (f:Nat→Bool) {i:Nat} (h:i<65):plF (plL f) i=f i:=by
 unfold plF plL;simp[List.getD_eq_getElem?_getD,h]
theorem qnb {B:List Bool} (h:B.length=65):plL (plF B)=B:=by
 apply List.ext_getElem
 ·rw[qg8,h]
 ·intro i h1 h2
  unfold plL plF;simp[List.getD_eq_getElem?_getD,h2]
theorem qmf (f:Nat→Bool):mk (plF (plL f))=mk f:=by
 unfold mk
 congr 1
theorem qof {A B:List Bool} (ha:A.length=65) (hb:B.length=65) (h:mk (plF A)=mk (plF B)):A=B:=by
 apply List.ext_getElem
 ·omega
 ·intro i h1 h2
  have e:(mk (plF A))[i]? =(mk (plF B))[i]? :=by rw[h]
  rw[qb8 _ i (by omega),qb8 _ i (by omega)] at e;have e2:plF A i=plF B i:=by injection e with e;injection e
  unfold plF at e2;simpa [List.getD_eq_getElem?_getD,h1,h2] using e2
def plS (L:List Pc) (B:List Bool) (b:Nat):List Bool:=plL (stF L (plF B) (UInt8.ofNat b))
theorem qjo {L:List Pc} {f g:Nat→Bool} {b b':UInt8} (h:∀j,j<L.length→f j=g j) (k:∀j,j<L.length→tkB (L.getD j zPc) ((b.toNat:Nat):Int)=tkB (L.getD j zPc) ((b'.toNat:Nat):Int)):stF L f b=stF L g b':=by
 unfold stF;rw[qfw L.length h k]
theorem qnc {L:List Pc} (hl:L.length≤64) (f:Nat→Bool) (b:Nat):plS L (plL f) b=plL (stF L f (UInt8.ofNat b)):=by
 unfold plS;rw[qjo (fun j hj=>qjn f (by omega)) (fun _ _=>rfl)]
theorem qjp (p:Pc) (b:UInt8):mtF [p] [b] 1=tkB p ((b.toNat:Nat):Int):=by
 have e:([p]:List Pc).getD 0 ⟨0,0,false,[]⟩=p:=rfl;simp only[mtF,stF,List.foldl_cons,List.foldl_nil,List.length_cons,List.length_nil,Nat.zero_add,clF,afF,e];cases hm:qa8 p.kind<;>cases ht:tkB p ((b.toNat:Nat):Int)<;>simp[upd]
theorem qjq {L:List Pc} (hl:L.length≤64):∀(t:By) (f:Nat→Bool),(ntL t).foldl (plS L) (plL f)=plL (t.foldl (stF L) f)
 |[],f=>rfl
 |c::t,f=>by
  show(ntL t).foldl (plS L) (plS L (plL f) c.toNat)=_;rw[qnc hl];have:UInt8.ofNat c.toNat=c:=by simp
  rw[this];exact qjq hl t _
end Go.Proofs.YtdgoilkgplnhfaaGreat
namespace Go.Proofs.YtdgoilkgplnhfaaGreat
open Go.RowKit Go.Lib
theorem Tryz.info80:(Tryz.prog.info? 80).map (fun i=>(i.zero,i.size))=some (some (.agg (mk fun _=>false)),65):=by kernel_rfl
theorem qfx (k b:Int) (no:Bool) (so:Option Addr) (n c:Nat) (w:World):Calls Tryz.prog 86 #[.agg #[.int .i64 k,.int .i64 b,.bool no,.slice so n c]] w fun e w'=>e=.returned (.bool (qa8 k))∧Below w.heap.size w w':=by
 by_cases h4:k=4
 ·have HE:Hid (qa8 k=true):=by simp[Hid,qa8,h4]
  go_enter Tryz.func86,Tryz.ntmps86;go_wp2;go_ret;exact⟨by rw[HE.out];rfl,al (Below.refl _ _) _⟩
 ·by_cases h5:k=5
  ·have HE:Hid (qa8 k=true):=by simp[Hid,qa8,h5]
   go_enter Tryz.func86,Tryz.ntmps86;go_wp2;go_ret;exact⟨by rw[HE.out];rfl,al (Below.refl _ _) _⟩
  ·go_enter Tryz.func86,Tryz.ntmps86
   go_wp2;go_ret;refine⟨?_,al (Below.refl _ _) _⟩;show Ending.returned (Value.bool (k==4||k==5))=_;simp[qa8,h4,h5]
set_option maxRecDepth 100000 in
set_option maxHeartbeats 4000000 in
theorem qd2 (ao:Option Addr) (cap:Nat) (D:List PD) (f:Nat→Bool) (w:World) (hl:D.length≤64) (hat:qe2 w ao D):
 Calls Tryz.prog 85 #[.slice ao D.length cap,.agg (mk f)] w fun e w'=>e=.returned (.agg (mk (clF (D.map PD.p) f D.length)))∧Below w.heap.size w w':=by
 obtain⟨hzv,hsz⟩:=zero_of_info Tryz.info80;have hs:=qaq f;have HAT:=qaa hat;have HXS:Hid (Below w.heap.size w ((w.alloc (.cells (mk f) 80)).alloc (.cells (mk fun _=>false) 80))):=al (al (Below.refl _ _) _) _;have B0:Hid (((w.alloc (.cells (mk f) 80)).alloc (.cells (mk fun _=>false) 80)).heap[w.heap.size]? =some (.cells (mk f) 80 (0,0))):=((al (Below.refl _ _) (.cells (mk fun _=>false) 80):Below (w.alloc (.cells (mk f) 80)).heap.size (w.alloc (.cells (mk f) 80)) _).block _ (by simp)).trans (heap_alloc_new _ _);have B1:Hid (((w.alloc (.cells (mk f) 80)).alloc (.cells (mk fun _=>false) 80)).heap[w.heap.size+1]? =some (.cells (mk fun _=>false) 80 (0,0))):=by
  have:=heap_alloc_new (w.alloc (.cells (mk f) 80)) (.cells (mk fun _=>false) 80)
  rwa [show(w.alloc (.cells (mk f) 80)).heap.size=w.heap.size+1 by simp] at this
 have HZS:=qaa (qaq fun _=>false);obtain⟨a,ha⟩:∃a,Hid (a=mk f):=⟨_,rfl⟩;obtain⟨z,hz⟩:∃z,Hid (z=mk fun _=>false):=⟨_,rfl⟩;rw[←ha.out] at hs HXS B0 B1 ⊢;rw[←hz.out] at hzv HXS B0 B1 HZS;clear hat;go_enter Tryz.func85,Tryz.ntmps85;go_wp2;go_loopw [9] (fun x wr=>∃k:Nat,k≤D.length∧x=.int .i64 k∧Hid (wr.heap[w.heap.size]? =some (.cells (mk (clF (D.map PD.p) f k)) 80 (0,0)))∧Hid (wr.heap[w.heap.size+1]? =some (.cells z 80 (0,0)))∧Hid (Below w.heap.size w wr)) (fun x _=>D.length-(RowKit.intOf x).toNat)
 case atStart=>exact⟨0,Nat.zero_le _,rfl,by have h0:a=mk (clF (D.map PD.p) f 0):=ha.out;rw[←h0];exact B0,B1,HXS⟩
 case round=>
  obtain⟨k,hk,rfl,BA,BZ,X⟩:=hrel;rename World=>wr
  by_cases hlt:k<D.length
  ·have hlt':(k:Int)<(D.length:Int):=by omega
   have h65:(k:Int)<65:=by omega
   have h66:(k:Int)+1<65:=by omega
   rcases HAT.out with h|⟨b,off,rfl,hb,hc⟩
   ·rw[h] at hlt;simp at hlt
   obtain⟨p0,p1,p2,p3,_⟩:=hc k hlt;have hbw:b<wr.heap.size:=Nat.lt_of_lt_of_le hb X.out.size;have r0:=(X.out.cell (p:=⟨b,off+k*4,none⟩) hb).trans p0;have r1:=(X.out.cell (p:=⟨b,off+k*4+1,none⟩) hb).trans p1;have r2:=(X.out.cell (p:=⟨b,off+k*4+2,none⟩) hb).trans p2;have r3:=(X.out.cell (p:=⟨b,off+k*4+3,none⟩) hb).trans p3;have HY:=qaa (fun h1 h2=>qjk (D:=D) (f:=f) (k:=k) hlt h1 h2);have HN:=qaa (fun h1=>qme (D:=D) (f:=f) (k:=k) hlt h1);have HMN:=qaa (fun w=>qfx D[k].p.kind D[k].p.b D[k].p.no D[k].so D[k].p.set.length D[k].sc w);generalize D[k].p.kind=kd at *;generalize D[k].p.b=kb at *;generalize D[k].p.no=kn at *;generalize D[k].p.set.length=kl at *;generalize D[k].so=ks at *;generalize D[k].sc=kc at *;have X4:=qaa (al (Below.refl wr.heap.size wr) (.cells #[.int .i64 kd,.int .i64 kb,.bool kn,.slice ks kl kc] 96));have BA4:=qaa ((X4.out.block _ (lt_of_block BA.out)).trans BA.out);have c0:(wr.alloc (.cells #[.int .i64 kd,.int .i64 kb,.bool kn,.slice ks kl kc] 96)).cell? ⟨w.heap.size,k,none⟩=some (.bool (clF (D.map PD.p) f k k)):=by rw[cell_of_row _ _ _ _ _ _ BA4.out];exact qb8 _ _ (by omega)
   clear hc p0 p1 p2 p3;cases hf:clF (D.map PD.p) f k k with
   |false=>
    have HE:=qaa (HN.out (by rw[hf,Bool.false_and]));rw[hf] at c0;go_wp2;go_roundw
    case rel=>exact⟨k+1,by omega,by go_num,by unfold Hid;rw[HE.out];exact BA4.out,(X4.out.block _ (lt_of_block BZ.out)).trans BZ.out,bt X.out X4.out (Nat.le_refl _)⟩
    case measure=>simp[RowKit.intOf];omega
   |true=>
    rw[hf] at c0;cases hm:qa8 kd with
    |false=>
     have HE:=qaa (HN.out (by rw[hm,Bool.and_false]));rw[hm] at HMN;go_wp2_with (go_at_call 86;refine(HMN.out _).mono ?_;rintro e w5 ⟨rfl,x5⟩;have X5:=qaa (bt X4.out x5 (Nat.le_refl _));clear x5);go_roundw
     case rel=>exact⟨k+1,by omega,by go_num,by unfold Hid;rw[HE.out];exact(X5.out.block _ (lt_of_block BA.out)).trans BA.out,(X5.out.block _ (lt_of_block BZ.out)).trans BZ.out,bt X.out X5.out (Nat.le_refl _)⟩
     case measure=>simp[RowKit.intOf];omega
    |true=>
     have HE:=qaa (HY.out hf hm);rw[hm] at HMN;go_wp2_with (go_at_call 86;refine(HMN.out _).mono ?_;rintro e w5 ⟨rfl,x5⟩;have X5:=qaa (bt X4.out x5 (Nat.le_refl _));have BA5:=qaa ((X5.out.block _ (lt_of_block BA.out)).trans BA.out);have d1:w5.cell? ⟨w.heap.size,k+1,none⟩=some (.bool (clF (D.map PD.p) f k (k+1))):=(by rw[cell_of_row _ _ _ _ _ _ BA5.out];exact qb8 _ _ (by omega));have g1:=frozen_of_row _ _ (k+1) _ _ BA5.out;clear x5);go_roundw
     case rel=>
      have hk6:Kept (fun i=>i=w.heap.size) w5 (w5.setCell ⟨w.heap.size,k+1,none⟩ (.bool true)):=Kept.setCell (F:=fun i=>i=w.heap.size) (p:=⟨w.heap.size,k+1,none⟩) (Kept.refl _ _) rfl _;have B5Z:=(X5.out.block _ (lt_of_block BZ.out)).trans BZ.out;refine⟨k+1,by omega,by go_num,?_,(hk6.block _ (lt_of_block B5Z) (by omega)).trans B5Z,?_⟩
      ·unfold Hid
       rw[HE.out,←qfs];exact block_setCell BA5.out (k+1) _
      ·exact(bt X.out X5.out (Nat.le_refl _)).trans (hk6.below (Nat.le_trans X.out.size X5.out.size) (fun i hi=>by omega))
     case measure=>simp[RowKit.intOf];omega
  ·have hnl:¬(k:Int)<(D.length:Int):=by omega
   have hkl:k=D.length:=by omega
   subst hkl;have HI:Hid ((Tryz.prog.info? 80).map (·.size)=some (mk (clF (D.map PD.p) f D.length)).size):=by unfold Hid;rw[hsz,qaq]
   have HZ2:Hid (z.size=(mk (clF (D.map PD.p) f D.length)).size):=by unfold Hid;rw[HZS.out,qaq]
   have HAL:=qaa (qcy (clF (D.map PD.p) f D.length));have HBN:=qaa (setRow_heap wr (w.heap.size+1) z (mk (clF (D.map PD.p) f D.length)) 80 (0,0) BZ.out);have HXN:=qaa (below_setRow X.out (Nat.le_succ _) (mk (clF (D.map PD.p) f D.length)));clear hzv hsz hs;obtain⟨m,hm⟩:∃m,Hid (m=mk (clF (D.map PD.p) f D.length)):=⟨_,rfl⟩;rw[←hm.out] at HI HZ2 HAL HBN HXN BA;go_wp2_with (first
    |(refine wpList_load_row rfl 80 (.tmp 3) rfl w.heap.size rfl 80 m (0,0) _ BA.out Tryz.underlying80 rfl HI.out ?_)
    |(refine wpList_store_row rfl 80 (.tmp 4) (.tmp 27) rfl (w.heap.size+1) m rfl rfl 80 z BZ.out HI.out HZ2.out HAL.out ?_))
   refine bodyPost_ret (v:=.agg m) (results_cell_row rfl _ _ (w.heap.size+1) 80 m (0,0) _ rfl HBN.out Tryz.underlying80 rfl HI.out) rfl ?_;exact⟨by rw[hm.out],HXN.out⟩
def agF (L:List Pc) (f g:Nat→Bool):Nat→(Nat→Bool)
 |0=>fun _=>false
 |k+1=>if f k&&g k then(if qa8 (L.getD k ⟨0,0,false,[]⟩).kind then upd (agF L f g k) k else upd (agF L f g k) (k+1)) else agF L f g k
theorem qog {D:List PD} {f g:Nat→Bool} {k:Nat} (h1:(f k&&g k)=false):agF (D.map PD.p) f g (k+1)=agF (D.map PD.p) f g k:=by
 conv=>lhs;unfold agF
 rw[h1];rfl
theorem qll {D:List PD} {f g:Nat→Bool} {k:Nat} (h:k<D.length) (h1:f k=true) (h2:g k=true) (h3:qa8 D[k].p.kind=true):agF (D.map PD.p) f g (k+1)=upd (agF (D.map PD.p) f g k) k:=by
 conv=>lhs;unfold agF
 rw[h1,h2,getD_map D k h,h3];rfl
theorem qnd {D:List PD} {f g:Nat→Bool} {k:Nat} (h:k<D.length) (h1:f k=true) (h2:g k=true) (h3:qa8 D[k].p.kind=false):agF (D.map PD.p) f g (k+1)=upd (agF (D.map PD.p) f g k) (k+1):=by
 conv=>lhs;unfold agF
 rw[h1,h2,getD_map D k h,h3];rfl
def qb9 (g:Nat→Bool):Array Value:=((List.range 64).map fun i=>Value.bool (g i)).toArray
theorem qca (g:Nat→Bool):(qb9 g).size=64:=by simp[qb9]
theorem qdt (g:Nat→Bool) (i:Nat) (h:i<64):(qb9 g)[i]? =some (.bool (g i)):=by
 unfold qb9;simp[h]
theorem qhp (g:Nat→Bool):(qb9 g).all (·.oneCell')=true:=by
 unfold qb9;simp[Value.oneCell']
structure AgS (w:World) (D:List PD) (f g:Nat→Bool) (z:Array Value) (k:Nat) (wr:World):Prop where
 at':wr.heap[w.heap.size]? =some (.cells (mk f) 80 (0,0))
 tk:wr.heap[w.heap.size+1]? =some (.cells (qb9 g) 73 (0,0))
 res:wr.heap[w.heap.size+2]? =some (.cells z 80 (0,0))
 nx:wr.heap[w.heap.size+3]? =some (.cells (mk (agF (D.map PD.p) f g k)) 80 (0,0))
 bel:Below w.heap.size w wr
theorem AgS.next {w:World} {D:List PD} {f g:Nat→Bool} {z:Array Value} {k:Nat} {wr w':World} (h:AgS w D f g z k wr) (x:Below wr.heap.size wr w') (he:agF (D.map PD.p) f g (k+1)=agF (D.map PD.p) f g k):AgS w D f g z (k+1) w':=
 ⟨(x.block _ (lt_of_block h.at')).trans h.at',(x.block _ (lt_of_block h.tk)).trans h.tk,(x.block _ (lt_of_block h.res)).trans h.res,by rw[he];exact(x.block _ (lt_of_block h.nx)).trans h.nx,bt h.bel x (Nat.le_refl _)⟩
theorem AgS.put {w:World} {D:List PD} {f g:Nat→Bool} {z:Array Value} {k:Nat} {wr w':World} (h:AgS w D f g z k wr) (x:Below wr.heap.size wr w') (j:Nat) (he:agF (D.map PD.p) f g (k+1)=upd (agF (D.map PD.p) f g k) j):AgS w D f g z (k+1) (w'.setCell ⟨w.heap.size+3,j,none⟩ (.bool true)):=by
 have hk6:Kept (fun i=>i=w.heap.size+3) w' (w'.setCell ⟨w.heap.size+3,j,none⟩ (.bool true)):=Kept.setCell (F:=fun i=>i=w.heap.size+3) (p:=⟨w.heap.size+3,j,none⟩) (Kept.refl _ _) rfl _;have b1:=(x.block _ (lt_of_block h.at')).trans h.at';have b4:=(x.block _ (lt_of_block h.tk)).trans h.tk;have b2:=(x.block _ (lt_of_block h.res)).trans h.res;have b3:=(x.block _ (lt_of_block h.nx)).trans h.nx;refine⟨(hk6.block _ (lt_of_block b1) (by omega)).trans b1,(hk6.block _ (lt_of_block b4) (by omega)).trans b4,(hk6.block _ (lt_of_block b2) (by omega)).trans b2,?_,(bt h.bel x (Nat.le_refl _)).trans (hk6.below (Nat.le_trans h.bel.size x.size) (fun i hi=>by omega))⟩;rw[he,←qfs];exact block_setCell b3 j _
theorem AgS.cell {w:World} {D:List PD} {f g:Nat→Bool} {z:Array Value} {k:Nat} {wr w':World} (h:AgS w D f g z k wr) (x:Below wr.heap.size wr w') (j:Nat) (hj:j<65):w'.cell? ⟨w.heap.size+3,j,none⟩=some (.bool (agF (D.map PD.p) f g k j))∧w'.frozen? ⟨w.heap.size+3,j,none⟩=false:=by
 have b3:=(x.block _ (lt_of_block h.nx)).trans h.nx;exact⟨by rw[cell_of_row _ _ _ _ _ _ b3];exact qb8 _ _ hj,frozen_of_row _ _ _ _ _ b3⟩
theorem qjr (w:World) (D:List PD) (f g:Nat→Bool) (z:Array Value) (hz:z=mk fun _=>false):AgS w D f g z 0 ((((w.alloc (.cells (mk f) 80)).alloc (.cells (qb9 g) 73)).alloc (.cells z 80)).alloc (.cells z 80)):=by
 have e1:(w.alloc (.cells (mk f) 80)).heap.size=w.heap.size+1:=by simp
 have x1:Below w.heap.size w (w.alloc (.cells (mk f) 80)):=al (Below.refl _ _) _;have b1:=heap_alloc_new w (.cells (mk f) 80);generalize w.alloc (.cells (mk f) 80)=w1 at *;have e2:(w1.alloc (.cells (qb9 g) 73)).heap.size=w1.heap.size+1:=by simp
 have x2:Below w1.heap.size w1 (w1.alloc (.cells (qb9 g) 73)):=al (Below.refl _ _) _;have b2:=heap_alloc_new w1 (.cells (qb9 g) 73);generalize w1.alloc (.cells (qb9 g) 73)=w2 at *;have e3:(w2.alloc (.cells z 80)).heap.size=w2.heap.size+1:=by simp
 have x3:Below w2.heap.size w2 (w2.alloc (.cells z 80)):=al (Below.refl _ _) _;have b3:=heap_alloc_new w2 (.cells z 80);generalize w2.alloc (.cells z 80)=w3 at *;have x4:Below w3.heap.size w3 (w3.alloc (.cells z 80)):=al (Below.refl _ _) _;have b4:=heap_alloc_new w3 (.cells z 80);rw[e1] at b2;rw[e2,e1] at b3;rw[e3,e2,e1] at b4;have y3:=bt x3 x4 (Nat.le_refl _);have y2:=bt x2 y3 (Nat.le_refl _);exact⟨(y2.block _ (by omega)).trans b1,(y3.block _ (by omega)).trans b2,(x4.block _ (by omega)).trans b3,by rw[hz] at b4 ⊢;exact b4,bt x1 y2 (Nat.le_refl _)⟩
set_option maxRecDepth 100000 in
set_option maxHeartbeats 8000000 in
theorem qik (ao:Option Addr) (cap:Nat) (D:List PD) (f g:Nat→Bool) (w:World) (hl:D.length≤64) (hat:qe2 w ao D):
 Calls Tryz.prog 47 #[.slice ao D.length cap,.agg (mk f),.agg (qb9 g)] w fun e w'=>e=.returned (.agg (mk (clF (D.map PD.p) (agF (D.map PD.p) f g D.length) D.length)))∧Below w.heap.size w w':=by
 obtain⟨hzv,hsz⟩:=zero_of_info Tryz.info80;have hs:=qaq f;have hs2:=qca g;have HAT:=qaa hat;have HZS:=qaa (qaq fun _=>false);obtain⟨z,hz⟩:∃z,Hid (z=mk fun _=>false):=⟨_,rfl⟩;have S0:=qaa (qjr w D f g z hz.out);obtain⟨a,ha⟩:∃a,Hid (a=mk f):=⟨_,rfl⟩;obtain⟨a2,ha2⟩:∃a2,Hid (a2=qb9 g):=⟨_,rfl⟩;rw[←ha.out] at hs S0 ⊢;rw[←ha2.out] at hs2 S0 ⊢;rw[←hz.out] at hzv HZS;clear hat;go_enter Tryz.func47,Tryz.ntmps47;go_wp2;go_loopw [12] (fun x wr=>∃k:Nat,k≤D.length∧x=.int .i64 k∧Hid (AgS w D f g z k wr)) (fun x _=>D.length-(RowKit.intOf x).toNat)
 case atStart=>exact⟨0,Nat.zero_le _,rfl,S0⟩
 case round=>
  obtain⟨k,hk,rfl,S⟩:=hrel;rename World=>wr
  by_cases hlt:k<D.length
  ·have hlt':(k:Int)<(D.length:Int):=by omega
   have h64:(k:Int)<64:=by omega
   have h65:(k:Int)<65:=by omega
   have h66:(k:Int)+1<65:=by omega
   have w66:IntKind.i64.wrap ((k:Int)+1)=(k:Int)+1:=by simp[IntKind.wrap,IntKind.bits,IntKind.signed];omega
   have X:=qaa S.out.bel;rcases HAT.out with h|⟨pb,off,rfl,hb,hc⟩
   ·rw[h] at hlt;simp at hlt
   obtain⟨p0,p1,p2,p3,p4⟩:=hc k hlt;have hbw:pb<wr.heap.size:=Nat.lt_of_lt_of_le hb X.out.size;have r0:=(X.out.cell (p:=⟨pb,off+k*4,none⟩) hb).trans p0;have r1:=(X.out.cell (p:=⟨pb,off+k*4+1,none⟩) hb).trans p1;have r2:=(X.out.cell (p:=⟨pb,off+k*4+2,none⟩) hb).trans p2;have r3:=(X.out.cell (p:=⟨pb,off+k*4+3,none⟩) hb).trans p3;have HNO:=qaa (fun h1=>qog (D:=D) (f:=f) (g:=g) (k:=k) h1);have HMA:=qaa (fun h1 h2 h3=>qll (D:=D) (f:=f) (g:=g) (k:=k) hlt h1 h2 h3);have HON:=qaa (fun h1 h2 h3=>qnd (D:=D) (f:=f) (g:=g) (k:=k) hlt h1 h2 h3);generalize D[k]=d at *;obtain⟨⟨kd,kb,kn,kS⟩,ks,kc⟩:=d;simp only at r0 r1 r2 r3 HNO HMA HON;clear hc p0 p1 p2 p3 p4;have HMN:=qaa (fun w=>qfx kd kb kn ks kS.length kc w);have X4:=qaa (al (Below.refl wr.heap.size wr) (.cells #[.int .i64 kd,.int .i64 kb,.bool kn,.slice ks kS.length kc] 96));have BA4:=qaa ((X4.out.block _ (lt_of_block S.out.at')).trans S.out.at');have BT4:=qaa ((X4.out.block _ (lt_of_block S.out.tk)).trans S.out.tk);have c0:(wr.alloc (.cells #[.int .i64 kd,.int .i64 kb,.bool kn,.slice ks kS.length kc] 96)).cell? ⟨w.heap.size,k,none⟩=some (.bool (f k)):=by rw[cell_of_row _ _ _ _ _ _ BA4.out];exact qb8 _ _ (by omega)
   have c1:(wr.alloc (.cells #[.int .i64 kd,.int .i64 kb,.bool kn,.slice ks kS.length kc] 96)).cell? ⟨w.heap.size+1,k,none⟩=some (.bool (g k)):=by rw[cell_of_row _ _ _ _ _ _ BT4.out];exact qdt _ _ (by omega)
   cases hf:f k with
   |false=>
    have HE:=qaa (HNO.out (by rw[hf,Bool.false_and]));rw[hf] at c0;go_wp2;go_roundw
    case rel=>exact⟨k+1,by omega,by go_num,S.out.next X4.out HE.out⟩
    case measure=>simp[RowKit.intOf];omega
   |true=>
    rw[hf] at c0;cases hg:g k with
    |false=>
     have HE:=qaa (HNO.out (by rw[hg,Bool.and_false]));rw[hg] at c1;go_wp2;go_roundw
     case rel=>exact⟨k+1,by omega,by go_num,S.out.next X4.out HE.out⟩
     case measure=>simp[RowKit.intOf];omega
    |true=>
     rw[hg] at c1;cases hm:qa8 kd with
     |false=>
      have HE:=qaa (HON.out hf hg hm);rw[hm] at HMN;go_wp2_with (go_at_call 86;refine(HMN.out _).mono ?_;rintro e w6 ⟨rfl,x6⟩;have X6:=qaa (bt X4.out x6 (Nat.le_refl _));obtain⟨e1,e2⟩:=S.out.cell X6.out (k+1) (by omega);clear x6);go_roundw
      case rel=>exact⟨k+1,by omega,by go_num,S.out.put X6.out _ HE.out⟩
      case measure=>simp[RowKit.intOf];omega
     |true=>
      have HE:=qaa (HMA.out hf hg hm);rw[hm] at HMN;go_wp2_with (go_at_call 86;refine(HMN.out _).mono ?_;rintro e w6 ⟨rfl,x6⟩;have X6:=qaa (bt X4.out x6 (Nat.le_refl _));obtain⟨e1,e2⟩:=S.out.cell X6.out k (by omega);clear x6);go_roundw
      case rel=>exact⟨k+1,by omega,by go_num,S.out.put X6.out _ HE.out⟩
      case measure=>simp[RowKit.intOf];omega
  ·have hnl:¬(k:Int)<(D.length:Int):=by omega
   have hkl:k=D.length:=by omega
   subst hkl;have HCL:=qaa (qd2 ao cap D (agF (D.map PD.p) f g D.length) wr hl (HAT.out.below S.out.bel));obtain⟨n,hn⟩:∃n,Hid (n=mk (agF (D.map PD.p) f g D.length)):=⟨_,rfl⟩;obtain⟨m,hm⟩:∃m,Hid (m=mk (clF (D.map PD.p) (agF (D.map PD.p) f g D.length) D.length)):=⟨_,rfl⟩;have BN:=qaa S.out.nx;rw[←hn.out] at HCL BN;rw[←hm.out] at HCL;have BR:=qaa S.out.res;have X:=qaa S.out.bel;have HI0:Hid ((Tryz.prog.info? 80).map (·.size)=some n.size):=by unfold Hid;rw[hsz,hn.out,qaq]
   have HI:Hid ((Tryz.prog.info? 80).map (·.size)=some m.size):=by unfold Hid;rw[hsz,hm.out,qaq]
   have HZ2:Hid (z.size=m.size):=by unfold Hid;rw[HZS.out,hm.out,qaq]
   have HAL:Hid (m.all (·.oneCell')=true):=by unfold Hid;rw[hm.out];exact qcy _
   clear hzv hsz hs hs2 S S0;go_wp2_with (first
    |(refine wpList_load_row rfl 80 (.tmp 7) rfl (w.heap.size+3) rfl 80 n (0,0) _ BN.out Tryz.underlying80 rfl HI0.out ?_)
    |(go_at_call 85;refine HCL.out.mono ?_;rintro e w6 ⟨rfl,x6⟩;have X6:=qaa (bt X.out x6 (Nat.le_refl _));have BR6:=qaa ((x6.block _ (lt_of_block BR.out)).trans BR.out);clear x6)
    |(refine wpList_store_row rfl 80 (.tmp 6) (.tmp 43) rfl (w.heap.size+2) m rfl rfl 80 z BR6.out HI.out HZ2.out HAL.out ?_))
   have HBN:=qaa (setRow_heap w6 (w.heap.size+2) z m 80 (0,0) BR6.out);have HXN:=qaa (below_setRow X6.out (by omega:w.heap.size≤w.heap.size+2) m);refine bodyPost_ret (v:=.agg m) (results_cell_row rfl _ _ (w.heap.size+2) 80 m (0,0) _ rfl HBN.out Tryz.underlying80 rfl HI.out) rfl ?_;exact⟨by rw[hm.out],HXN.out⟩
set_option maxRecDepth 100000 in
set_option maxHeartbeats 8000000 in
theorem qe4 (ao:Option Addr) (cap:Nat) (D:List PD) (w:World) (hl:D.length≤64) (hat:qe2 w ao D):
 Calls Tryz.prog 45 #[.slice ao D.length cap] w fun e w'=>e=.returned (.agg (mk (clF (D.map PD.p) (upd (fun _=>false) 0) D.length)))∧Below w.heap.size w w':=by
 obtain⟨hzv,hsz⟩:=zero_of_info Tryz.info80;have hs:=qaq fun _=>false
 have HAT:=qaa hat;obtain⟨z,hz⟩:∃z,Hid (z=mk fun _=>false):=⟨_,rfl⟩;rw[←hz.out] at hzv hs;have HZS:=qaa hs;have x1:Below w.heap.size w (w.alloc (.cells z 80)):=al (Below.refl _ _) _;have b1:=heap_alloc_new w (.cells z 80);have e1:(w.alloc (.cells z 80)).heap.size=w.heap.size+1:=by simp
 have x2:Below (w.alloc (.cells z 80)).heap.size (w.alloc (.cells z 80)) ((w.alloc (.cells z 80)).alloc (.cells z 80)):=al (Below.refl _ _) _;have b2:=heap_alloc_new (w.alloc (.cells z 80)) (.cells z 80);have B1:=qaa ((x2.block _ (by omega)).trans b1);rw[e1] at b2;have B2:=qaa b2;have X2:=qaa (bt x1 x2 (Nat.le_refl _));obtain⟨w2,hw2⟩:∃w2,w2=(w.alloc (.cells z 80)).alloc (.cells z 80):=⟨_,rfl⟩;rw[←hw2] at B1 B2 X2;clear x1 x2 b1 b2 e1 hat hs;have c0:w2.cell? ⟨w.heap.size+1,0,none⟩=some (.bool false):=by rw[cell_of_row _ _ _ _ _ _ B2.out,hz.out];exact qb8 _ _ (by omega)
 have f0:=frozen_of_row _ _ 0 _ _ B2.out;go_enter Tryz.func45,Tryz.ntmps45;go_upto_region 2 with fail
 rw[←hw2];clear hw2;have hk6:Kept (fun i=>i=w.heap.size+1) w2 (w2.setCell ⟨w.heap.size+1,0,none⟩ (.bool true)):=Kept.setCell (F:=fun i=>i=w.heap.size+1) (p:=⟨w.heap.size+1,0,none⟩) (Kept.refl _ _) rfl _;have B3:Hid ((w2.setCell ⟨w.heap.size+1,0,none⟩ (.bool true)).heap[w.heap.size+1]? =some (.cells (mk (upd (fun _=>false) 0)) 80 (0,0))):=by
  unfold Hid;rw[←qfs,←hz.out];exact block_setCell B2.out 0 _
 have BR:=qaa ((hk6.block _ (lt_of_block B1.out) (by omega)).trans B1.out);have X:=qaa (X2.out.trans (hk6.below X2.out.size (fun i hi=>by omega)));clear hk6 B1 B2 X2;go_upto_region 3 with fail
 generalize w2.setCell ⟨w.heap.size+1,0,none⟩ (.bool true)=w3 at *;clear c0 f0;have HCL:=qaa (qd2 ao cap D (upd (fun _=>false) 0) w3 hl (HAT.out.below X.out));obtain⟨n,hn⟩:∃n,Hid (n=mk (upd (fun _=>false) 0)):=⟨_,rfl⟩;obtain⟨m,hm⟩:∃m,Hid (m=mk (clF (D.map PD.p) (upd (fun _=>false) 0) D.length)):=⟨_,rfl⟩;rw[←hn.out] at HCL B3;rw[←hm.out] at HCL;have HI0:Hid ((Tryz.prog.info? 80).map (·.size)=some n.size):=by unfold Hid;rw[hsz,hn.out,qaq]
 have HI:Hid ((Tryz.prog.info? 80).map (·.size)=some m.size):=by unfold Hid;rw[hsz,hm.out,qaq]
 have HZ2:Hid (z.size=m.size):=by unfold Hid;rw[HZS.out,hm.out,qaq]
 have HAL:Hid (m.all (·.oneCell')=true):=by unfold Hid;rw[hm.out];exact qcy _
 clear hzv hsz;go_wp2_with (first
  |(refine wpList_load_row rfl 80 (.tmp 3) rfl (w.heap.size+1) rfl 80 n (0,0) _ B3.out Tryz.underlying80 rfl HI0.out ?_)
  |(go_at_call 85;refine HCL.out.mono ?_;rintro e w6 ⟨rfl,x6⟩;have X6:=qaa (bt X.out x6 (Nat.le_refl _));have BR6:=qaa ((x6.block _ (lt_of_block BR.out)).trans BR.out);clear x6)
  |(refine wpList_store_row rfl 80 (.tmp 2) (.tmp 8) rfl w.heap.size m rfl rfl 80 z BR6.out HI.out HZ2.out HAL.out ?_))
 have HBN:=qaa (setRow_heap w6 w.heap.size z m 80 (0,0) BR6.out);have HXN:=qaa (below_setRow X6.out (Nat.le_refl w.heap.size) m);refine bodyPost_ret (v:=.agg m) (results_cell_row rfl _ _ w.heap.size 80 m (0,0) _ rfl HBN.out Tryz.underlying80 rfl HI.out) rfl ?_;exact⟨by rw[hm.out],HXN.out⟩
end Go.Proofs.YtdgoilkgplnhfaaGreat

