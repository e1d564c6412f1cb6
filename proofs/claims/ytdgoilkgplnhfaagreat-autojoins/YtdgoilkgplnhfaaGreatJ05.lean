/-
  strings.HasPrefix, strings.IndexByte and the reader's skip and take by their contracts. Condition: a text is no longer than a process can hold.
-/
import Derived.Deep.RegionHeld3
import Derived.Lib.Strings
import Derived.Lib.Bytealg
import Derived.Test.YtdgoilkgplnhfaaGreatJ01
import Derived.Test.YtdgoilkgplnhfaaGreatJ04
import Derived.Test.YtdgoilkgplnhfaaGreatJ03
namespace Go.Proofs.YtdgoilkgplnhfaaGreat
open Go.RowKit Go.Lib
theorem bt {N:Nat} {a b c:World} (h:Below N a b) (k:Below b.heap.size b c) (hN:N≤a.heap.size):Below N a c:=h.trans (k.mono (Nat.le_trans hN h.size))
theorem al {w w':World} (h:Below w.heap.size w w') (o:Obj):Below w.heap.size w (w'.alloc o):=h.alloc h.size o
theorem block_setCell {w:World} {b:Nat} {cs:Array Value} {t:TypeId} {fr:Nat×Nat} (h:w.heap[b]? =some (.cells cs t fr)) (j:Nat) (u:Value):(w.setCell ⟨b,j,none⟩ u).heap[b]? =some (.cells (cs.set! j u) t fr):=by
 have hlt:=lt_of_block h;have h':w.heap[b]=.cells cs t fr:=by simpa [Array.getElem?_eq_getElem hlt] using h
 show(w.heap.modify b _)[b]? =_;rw[Array.getElem?_eq_getElem (by simpa using hlt),Array.getElem_modify_self,h'];rfl
theorem st2 {W:World} {g:Nat} {a b:Value} {T:TypeId} (B:W.heap[g]? =some (.cells #[a,b] T (0,0))) (x y:Value):
 W.cell? ⟨g,0,none⟩=some a∧W.frozen? ⟨g,0,none⟩=false∧(W.setCell ⟨g,0,none⟩ x).cell? ⟨g,1,none⟩=some b∧(W.setCell ⟨g,0,none⟩ x).frozen? ⟨g,1,none⟩=false∧((W.setCell ⟨g,0,none⟩ x).setCell ⟨g,1,none⟩ y).cell? ⟨g,0,none⟩=some x∧((W.setCell ⟨g,0,none⟩ x).setCell ⟨g,1,none⟩ y).cell? ⟨g,1,none⟩=some y∧Kept (fun k=>k=g) W ((W.setCell ⟨g,0,none⟩ x).setCell ⟨g,1,none⟩ y):=by
 have B1:(W.setCell ⟨g,0,none⟩ x).heap[g]? =some (.cells #[x,b] T (0,0)):=block_setCell B 0 x;have B2:((W.setCell ⟨g,0,none⟩ x).setCell ⟨g,1,none⟩ y).heap[g]? =some (.cells #[x,y] T (0,0)):=block_setCell B1 1 y;refine⟨?_,frozen_of_row _ _ _ _ _ B,?_,frozen_of_row _ _ _ _ _ B1,?_,?_,Kept.setCell (F:=fun k=>k=g) (p:=⟨g,1,none⟩) (Kept.setCell (F:=fun k=>k=g) (p:=⟨g,0,none⟩) (Kept.refl _ _) rfl _) rfl _⟩
 ·rw[cell_of_row _ _ _ _ _ _ B];rfl
 ·rw[cell_of_row _ _ _ _ _ _ B1];rfl
 ·rw[cell_of_row _ _ _ _ _ _ B2];rfl
 ·rw[cell_of_row _ _ _ _ _ _ B2];rfl
theorem st4 {W:World} {g:Nat} {a b c d:Value} {T:TypeId} (B:W.heap[g]? =some (.cells #[a,b,c,d] T (0,0))) (x y z u:Value):
 W.cell? ⟨g,0,none⟩=some a∧W.frozen? ⟨g,0,none⟩=false∧(W.setCell ⟨g,0,none⟩ x).cell? ⟨g,1,none⟩=some b∧(W.setCell ⟨g,0,none⟩ x).frozen? ⟨g,1,none⟩=false∧
 ((W.setCell ⟨g,0,none⟩ x).setCell ⟨g,1,none⟩ y).cell? ⟨g,2,none⟩=some c∧((W.setCell ⟨g,0,none⟩ x).setCell ⟨g,1,none⟩ y).frozen? ⟨g,2,none⟩=false∧
 (((W.setCell ⟨g,0,none⟩ x).setCell ⟨g,1,none⟩ y).setCell ⟨g,2,none⟩ z).cell? ⟨g,3,none⟩=some d∧(((W.setCell ⟨g,0,none⟩ x).setCell ⟨g,1,none⟩ y).setCell ⟨g,2,none⟩ z).frozen? ⟨g,3,none⟩=false∧
 ((((W.setCell ⟨g,0,none⟩ x).setCell ⟨g,1,none⟩ y).setCell ⟨g,2,none⟩ z).setCell ⟨g,3,none⟩ u).heap[g]? =some (.cells #[x,y,z,u] T (0,0))∧Kept (fun k=>k=g) W ((((W.setCell ⟨g,0,none⟩ x).setCell ⟨g,1,none⟩ y).setCell ⟨g,2,none⟩ z).setCell ⟨g,3,none⟩ u):=by
 have B1:(W.setCell ⟨g,0,none⟩ x).heap[g]? =some (.cells #[x,b,c,d] T (0,0)):=block_setCell B 0 x;have B2:((W.setCell ⟨g,0,none⟩ x).setCell ⟨g,1,none⟩ y).heap[g]? =some (.cells #[x,y,c,d] T (0,0)):=block_setCell B1 1 y;have B3:(((W.setCell ⟨g,0,none⟩ x).setCell ⟨g,1,none⟩ y).setCell ⟨g,2,none⟩ z).heap[g]? =some (.cells #[x,y,z,d] T (0,0)):=block_setCell B2 2 z;have B4:((((W.setCell ⟨g,0,none⟩ x).setCell ⟨g,1,none⟩ y).setCell ⟨g,2,none⟩ z).setCell ⟨g,3,none⟩ u).heap[g]? =some (.cells #[x,y,z,u] T (0,0)):=block_setCell B3 3 u;refine⟨?_,frozen_of_row _ _ _ _ _ B,?_,frozen_of_row _ _ _ _ _ B1,?_,frozen_of_row _ _ _ _ _ B2,?_,frozen_of_row _ _ _ _ _ B3,B4,Kept.setCell (F:=fun k=>k=g) (p:=⟨g,3,none⟩) (Kept.setCell (F:=fun k=>k=g) (p:=⟨g,2,none⟩) (Kept.setCell (F:=fun k=>k=g) (p:=⟨g,1,none⟩) (Kept.setCell (F:=fun k=>k=g) (p:=⟨g,0,none⟩) (Kept.refl _ _) rfl _) rfl _) rfl _) rfl _⟩
 ·rw[cell_of_row _ _ _ _ _ _ B];rfl
 ·rw[cell_of_row _ _ _ _ _ _ B1];rfl
 ·rw[cell_of_row _ _ _ _ _ _ B2];rfl
 ·rw[cell_of_row _ _ _ _ _ _ B3];rfl
def sv (l:By):Value:=.string ⟨l.toArray⟩
set_option maxHeartbeats 1000000 in
theorem qh1 (s p:By) (w:World):Calls Tryz.prog 124 #[.string ⟨s.toArray⟩,.string ⟨p.toArray⟩] w fun e w'=>e=.returned (.bool (p.isPrefixOf s))∧w'=w:=by
 have hr:=Lib.hasPrefix_raw ⟨s.toArray⟩ ⟨p.toArray⟩;unfold Lib.hasPrefix at hr;simp only at hr;rw[←hr];clear hr;go_enter Tryz.func124,Tryz.ntmps124;go_wp2
 ·rename_i h
  go_ret;have h':(⟨p.toArray⟩:ByteArray).size≤(⟨s.toArray⟩:ByteArray).size:=h;rw[decide_eq_true h',Bool.true_and];exact⟨congrArg (fun b=>Ending.returned (Value.bool b)) (by rw[Lib.toList_data ⟨p.toArray⟩];rfl),rfl⟩
 ·rename_i h
  go_ret;have h':¬(⟨p.toArray⟩:ByteArray).size≤(⟨s.toArray⟩:ByteArray).size:=h;rw[decide_eq_false h',Bool.false_and];exact⟨rfl,rfl⟩
set_option maxHeartbeats 1000000 in
set_option maxRecDepth 100000 in
theorem qgm (s:By) (c:Int) (w:World):Calls Tryz.prog 100 #[.string ⟨s.toArray⟩,.int .u8 c] w fun e w'=>e=.returned (.int .i64 (Lib.indexByte s c.toNat.toUInt8))∧w'=w:=by
 have H:Calls Tryz.prog 130 #[.string ⟨s.toArray⟩,.int .u8 c] w fun e w'=>e=.returned (.int .i64 (Lib.indexByte s c.toNat.toUInt8))∧w'=w:=by
  go_enter Tryz.func130,Tryz.ntmps130;go_wp2;rw[run_callFunc_extern Tryz.func161 (by kernel_rfl) (by kernel_rfl) (by kernel_rfl) (e:=Extern.BytealgIndexByte.indexByte) (by kernel_rfl),Lib.run_indexByteString];simp only[Result.andThen];rw[Oper.upon_value];go_wp2;go_ret;exact⟨rfl,rfl⟩
 go_enter Tryz.func100,Tryz.ntmps100;go_wp2_with (go_at_call 130;refine H.mono ?_;rintro e w2 ⟨rfl,hw2⟩;subst hw2);go_ret;exact⟨rfl,rfl⟩
def qeq (w:World) (rb:Nat) (p r:By):Prop:=w.heap[rb]? =some (.cells #[.string ⟨(p++r).toArray⟩,.int .i64 (p.length:Nat)] 93 (0,0))
theorem qeq.below {w w':World} {rb:Nat} {p r:By} (h:qeq w rb p r) (x:Below w.heap.size w w'):qeq w' rb p r:=(x.block rb (lt_of_block h)).trans h
theorem qeq.kept {F:Nat→Prop} {w w':World} {rb:Nat} {p r:By} (h:qeq w rb p r) (x:Kept F w w') (hF:¬F rb):qeq w' rb p r:=(x.block rb (lt_of_block h) hF).trans h
theorem qeq.c0 {w:World} {rb:Nat} {p r:By} (h:qeq w rb p r):w.cell? ⟨rb,0,none⟩=some (.string ⟨(p++r).toArray⟩):=by rw[cell_of_row w rb 0 _ _ _ h];rfl
theorem qeq.c1 {w:World} {rb:Nat} {p r:By} (h:qeq w rb p r):w.cell? ⟨rb,1,none⟩=some (.int .i64 (p.length:Nat)):=by rw[cell_of_row w rb 1 _ _ _ h];rfl
theorem qpd (p r:By):(⟨(p++r).toArray⟩:ByteArray).extract p.length (p.length+r.length)=⟨r.toArray⟩:=by
 apply ByteArray.ext;simp
set_option maxRecDepth 100000 in
set_option maxHeartbeats 2000000 in
theorem qkv (rb:Nat) (p q r:By) (w:World) (hl:(p++r).length≤140737488351232) (hq:q.length≤8) (h:qeq w rb p r):
 Calls Tryz.prog 91 #[.pointer (some ⟨rb,0,none⟩),.string ⟨q.toArray⟩] w fun e w'=>e=.returned (.bool (q.isPrefixOf r))∧(q.isPrefixOf r=true→qeq w' rb (p++q) (r.drop q.length))∧(q.isPrefixOf r=false→qeq w' rb p r)∧Kept (fun k=>k=rb) w w':=by
 have c0:=h.c0;have c1:=h.c1;have f1:=frozen_of_row w rb 1 _ _ h;have hb:=lt_of_block h;have HH:=qaa h;have e1:=qpd p r;rw[←List.length_append] at e1;have z1:(p.length:Int)≤((p++r).length:Int):=by rw[List.length_append];omega
 have HP:=qaa (fun w=>qh1 r q w);have w1:IntKind.i64.wrap ((p.length:Int)+(q.length:Int))=(p.length:Int)+(q.length:Int):=by rw[List.length_append] at hl;simp[IntKind.wrap,IntKind.bits,IntKind.signed];omega
 clear h;obtain⟨s,HS⟩:∃s,Hid (s=p++r):=⟨_,rfl⟩;rw[←HS.out] at c0 e1 z1 hl;cases hpq:q.isPrefixOf r with
 |true=>
  rw[hpq] at HP;have HR:Hid (q++r.drop q.length=r):=by
   obtain⟨r',rfl⟩:=List.isPrefixOf_iff_prefix.1 hpq;simp[Hid]
  clear hpq;go_enter Tryz.func91,Tryz.ntmps91;go_wp2;go_region_held3 (fun w'=>w'.cell? ⟨rb,0,none⟩=some (.string ⟨s.toArray⟩)∧w'.cell? ⟨rb,1,none⟩=some (.int .i64 (p.length:Nat))) (first|assumption|(simp[go_sem, *];done))
   (first|(go_at_call 124;refine(HP.out _).mono ?_;rintro e w2 ⟨rfl,hw2⟩;subst hw2))
  go_wp2;go_ret;refine⟨rfl,fun _=>?_,fun h=>(by cases h),by refine Kept.drew (Kept.setCell (F:=fun k=>k=rb) (a:=w) (p:=⟨rb,1,none⟩) ?_ rfl _);exact⟨rfl,rfl,rfl,Nat.le_refl _,fun _ _ _=>rfl⟩⟩;refine(block_setCell (cs:=#[.string ⟨(p++r).toArray⟩,.int .i64 (p.length:Nat)]) HH.out 1 _).trans ?_;rw[List.append_assoc,HR.out,List.length_append,Int.natCast_add];rfl
 |false=>
  rw[hpq] at HP;clear hpq;go_enter Tryz.func91,Tryz.ntmps91;go_wp2;go_region_held3 (fun w'=>w'.cell? ⟨rb,0,none⟩=some (.string ⟨s.toArray⟩)∧w'.cell? ⟨rb,1,none⟩=some (.int .i64 (p.length:Nat))) (first|assumption|(simp[go_sem, *];done))
   (first|(go_at_call 124;refine(HP.out _).mono ?_;rintro e w2 ⟨rfl,hw2⟩;subst hw2))
  go_wp2;go_ret;exact⟨rfl,fun h=>(by cases h),fun _=>HH.out,⟨rfl,rfl,rfl,Nat.le_refl _,fun _ _ _=>rfl⟩⟩
theorem qms (l:By) (k:Nat) (hk:k<l.length):((⟨l.toArray⟩:ByteArray)[k]'hk)=l[k]:=by rfl
set_option maxRecDepth 100000 in
set_option maxHeartbeats 2000000 in
theorem qkw (rb:Nat) (p:By) (least:Int) (w:World) (h:qeq w rb p []):
 Calls Tryz.prog 93 #[.pointer (some ⟨rb,0,none⟩),.int .i64 least] w fun e w'=>e=.returned (.tuple #[.int .i64 0,.bool false])∧qeq w' rb p []∧Kept (fun k=>k=rb) w w':=by
 have c0:=h.c0;have c1:=h.c1;rw[List.append_nil] at c0;have HH:=qaa h;clear h;go_enter Tryz.func93,Tryz.ntmps93;go_wp2;go_quiet (fail);go_wp2;go_ret2;exact⟨rfl,HH.out,⟨rfl,rfl,rfl,Nat.le_refl _,fun _ _ _=>rfl⟩⟩
set_option maxRecDepth 100000 in
set_option maxHeartbeats 2000000 in
theorem qkx (rb:Nat) (p r:By) (c:UInt8) (least:Int) (w:World) (hl:(p++c::r).length≤140737488351232) (h:qeq w rb p (c::r)):
 Calls Tryz.prog 93 #[.pointer (some ⟨rb,0,none⟩),.int .i64 least] w fun e w'=>((least≤(c.toNat:Int)∧c.toNat≤126∧e=.returned (.tuple #[.int .i64 (c.toNat:Nat),.bool true])∧qeq w' rb (p++[c]) r)∨(¬(least≤(c.toNat:Int)∧c.toNat≤126)∧e=.returned (.tuple #[.int .i64 0,.bool false])∧qeq w' rb p (c::r)))∧Kept (fun k=>k=rb) w w':=by
 have c0:=h.c0;have c1:=h.c1;have f1:=frozen_of_row w rb 1 _ _ h;have HH:=qaa h;have hpl:p.length<(p++c::r).length:=by rw[List.length_append,List.length_cons];omega
 have z1:(p.length:Int)<((p++c::r).length:Int):=by omega
 have z2:¬(p.length:Int)=((p++c::r).length:Int):=by omega
 have hg:(⟨(p++c::r).toArray⟩:ByteArray)[p.length]'hpl=c:=by rw[qms];simp
 have w1:IntKind.i64.wrap ((p.length:Int)+1)=(p.length:Int)+1:=by simp[IntKind.wrap,IntKind.bits,IntKind.signed];omega
 have w2:IntKind.i64.wrap (c.toNat:Int)=(c.toNat:Int):=by have:=c.toNat_lt;simp[IntKind.wrap,IntKind.bits,IntKind.signed];omega
 clear h;obtain⟨s,HS⟩:∃s,Hid (s=p++c::r):=⟨_,rfl⟩;have hg':∀hk,(⟨s.toArray⟩:ByteArray)[p.length]'hk=c:=by rw[HS.out];exact fun _=>hg
 clear hg;rw[←HS.out] at c0 z1 z2 hl hpl;by_cases h1:(c.toNat:Int)<least
 ·go_enter Tryz.func93,Tryz.ntmps93
  go_wp2;go_quiet (fail);go_wp2;go_quiet (fail);go_wp2;go_ret2;exact⟨.inr ⟨fun h=>(by omega),rfl,HH.out⟩,⟨rfl,rfl,rfl,Nat.le_refl _,fun _ _ _=>rfl⟩⟩
 ·by_cases h2:(126:Int)<(c.toNat:Int)
  ·go_enter Tryz.func93,Tryz.ntmps93
   go_wp2;go_quiet (fail);go_wp2;go_quiet (fail);go_wp2;go_ret2;exact⟨.inr ⟨fun h=>(by omega),rfl,HH.out⟩,⟨rfl,rfl,rfl,Nat.le_refl _,fun _ _ _=>rfl⟩⟩
  ·go_enter Tryz.func93,Tryz.ntmps93
   go_wp2;go_quiet (fail);go_wp2;go_quiet (fail);go_wp2;go_ret2;refine⟨.inl ⟨by omega,by omega,rfl,?_⟩,by refine Kept.setCell (F:=fun k=>k=rb) (a:=w) (p:=⟨rb,1,none⟩) ?_ rfl _;exact⟨rfl,rfl,rfl,Nat.le_refl _,fun _ _ _=>rfl⟩⟩;refine(block_setCell (cs:=#[.string ⟨(p++c::r).toArray⟩,.int .i64 (p.length:Nat)]) HH.out 1 _).trans ?_;rw[List.append_assoc,List.length_append,Int.natCast_add];rfl
def NAt (w:World) (ao:Option Addr) (L:List Nat):Prop:=L=[]∨∃b off,ao=some ⟨b,off,none⟩∧b<w.heap.size∧∀i (h:i<L.length),w.cell? ⟨b,off+i,none⟩=some (.int .i64 (L[i]:Int))
theorem NAt.below {w w':World} {ao:Option Addr} {L:List Nat} (h:NAt w ao L) (hb:Below w.heap.size w w'):NAt w' ao L:=by
 rcases h with h|⟨b,off,h1,h2,h3⟩
 ·exact .inl h
 ·exact .inr ⟨b,off,h1,Nat.lt_of_lt_of_le h2 hb.size,fun i hi=>(hb.cell (p:=⟨b,off+i,none⟩) h2).trans (h3 i hi)⟩
theorem NAt.get {w:World} {ao:Option Addr} {L:List Nat} (h:NAt w ao L) {i:Nat} (hi:i<L.length):∃b off,ao=some ⟨b,off,none⟩∧b<w.heap.size∧w.cell? ⟨b,off+i,none⟩=some (.int .i64 (L[i]:Int)):=by
 rcases h with h|⟨b,off,h1,h2,h3⟩
 ·rw[h] at hi;cases hi
 ·exact⟨b,off,h1,h2,h3 i hi⟩
theorem qan.at {w:World} {base:Nat} {v:Value} {L:List Nat} (h:qan w base v L):∃ao cap,v=.slice ao L.length cap∧NAt w ao L:=by
 have hh:w.ownsRow base 3 1 v L.length (qab L):=h;rcases hh.2 with⟨rfl,hn⟩|⟨g,cap,cur,rfl,hb,hg,r⟩
 ·exact⟨none,0,by rw[hn],.inl (List.eq_nil_of_length_eq_zero hn)⟩
 ·refine⟨_,cap,rfl,.inr ⟨g,0,rfl,lt_of_block hg,fun i hi=>?_⟩⟩
  have:=h.cell hi;simpa using this
def auV (bs:By) (na:Option Addr) (nl nc:Nat) (oa:Option Addr) (ol oc:Nat):Value:=.agg #[.string ⟨bs.toArray⟩,.slice na nl nc,.slice oa ol oc]
set_option maxRecDepth 100000 in
theorem qb7 (bs:By) (na oa:Option Addr) (nl nc ol oc:Nat) (w:World) (hn:nl≤140737488351232) (ho:0<ol):
 Calls Tryz.prog 94 #[auV bs na nl nc oa ol oc] w fun e w'=>e=.returned (.int .i64 ((nl/ol:Nat):Int))∧Below w.heap.size w w':=by
 have hq:(nl:Int).tdiv (ol:Int)=((nl/ol:Nat):Int):=by rw[Int.tdiv_eq_ediv_of_nonneg (by omega)];rfl
 have hle:nl/ol≤nl:=Nat.div_le_self _ _;generalize nl/ol=m at *;have hw:IntKind.i64.wrap (m:Int)=(m:Int):=by simp[IntKind.wrap,IntKind.bits,IntKind.signed];omega
 have h0:¬(ol:Int)=0:=by omega
 have X:=qaa (al (Below.refl w.heap.size w) (.cells #[.string ⟨bs.toArray⟩,.slice na nl nc,.slice oa ol oc] 24));unfold auV;go_enter Tryz.func94,Tryz.ntmps94;go_wp2;go_ret;exact⟨rfl,X.out⟩
theorem qak (n:Nat) (h:n≤9223372036854775807):IntKind.i64.wrap (n:Int)=(n:Int):=by simp[IntKind.wrap,IntKind.bits,IntKind.signed];omega
set_option maxRecDepth 100000 in
set_option maxHeartbeats 2000000 in
theorem qer (bs:By) (na oa:Option Addr) (nc oc ol s b W c:Nat) (NX:List Nat) (w:World) (hn:NX.length≤140737488351232) (ho:0<ol) (hW:NX.length/ol=W) (hb:b<bs.length) (hc:(bs[b]).toNat=c) (hi:s*W+c<NX.length) (hat:NAt w na NX):
 Calls Tryz.prog 58 #[auV bs na NX.length nc oa ol oc,.int .i64 (s:Nat),.int .i64 (b:Nat)] w fun e w'=>e=.returned (.int .i64 ((NX[s*W+c]:Nat):Int))∧Below w.heap.size w w':=by
 obtain⟨nb,off,rfl,hnb,cx⟩:=hat.get hi;generalize NX[s*W+c]=r at *;have hwd:=fun W'=>qb7 bs (some ⟨nb,off,none⟩) oa NX.length nc ol oc W' hn ho
 rw[hW] at hwd;have hsW:s*W≤140737488351232:=by omega
 have hbt:c<256:=by rw[←hc];exact(bs[b]).toNat_lt
 obtain⟨y,hy⟩:∃y,bs[b]=y:=⟨_,rfl⟩;have hg:∀hk,(⟨bs.toArray⟩:ByteArray)[b]'hk=y:=fun _=>hy
 have f2:IntKind.i64.wrap ((y.toNat:Nat):Int)=(c:Int):=by rw[←hy,hc];exact qak _ (by omega)
 clear hc hy;have f1:IntKind.i64.wrap ((s:Int)*(W:Int))=((s*W:Nat):Int):=by rw[show(s:Int)*(W:Int)=((s*W:Nat):Int) by simp];exact qak _ (by omega)
 generalize hm:s*W=m at *;have f3:IntKind.i64.wrap ((m:Int)+(c:Int))=((m+c:Nat):Int):=by rw[show(m:Int)+(c:Int)=((m+c:Nat):Int) by simp];exact qak _ (by omega)
 have hlb:(b:Int)<(bs.length:Int):=by omega
 have hln:(m:Int)+(c:Int)<(NX.length:Int):=by omega
 have hlz:(0:Int)≤(m:Int)+(c:Int):=by omega
 have hlt:((m:Int)+(c:Int)).toNat=m+c:=by omega
 have X1:=qaa (al (Below.refl w.heap.size w) (.cells #[.string ⟨bs.toArray⟩,.slice (some ⟨nb,off,none⟩) NX.length nc,.slice oa ol oc] 24));have B1:=heap_alloc_new w (.cells #[.string ⟨bs.toArray⟩,.slice (some ⟨nb,off,none⟩) NX.length nc,.slice oa ol oc] 24);have c0:(w.alloc (.cells #[.string ⟨bs.toArray⟩,.slice (some ⟨nb,off,none⟩) NX.length nc,.slice oa ol oc] 24)).cell? ⟨w.heap.size,0,none⟩=some (.string ⟨bs.toArray⟩):=by rw[cell_of_row _ _ _ _ _ _ B1];rfl
 have c1:(w.alloc (.cells #[.string ⟨bs.toArray⟩,.slice (some ⟨nb,off,none⟩) NX.length nc,.slice oa ol oc] 24)).cell? ⟨w.heap.size,1,none⟩=some (.slice (some ⟨nb,off,none⟩) NX.length nc):=by rw[cell_of_row _ _ _ _ _ _ B1];rfl
 have c2:(w.alloc (.cells #[.string ⟨bs.toArray⟩,.slice (some ⟨nb,off,none⟩) NX.length nc,.slice oa ol oc] 24)).cell? ⟨w.heap.size,2,none⟩=some (.slice oa ol oc):=by rw[cell_of_row _ _ _ _ _ _ B1];rfl
 have c3:=(X1.out.cell (p:=⟨nb,off+(m+c),none⟩) hnb).trans cx;have hl1:=lt_of_block B1;have hl2:nb<(w.alloc (.cells #[.string ⟨bs.toArray⟩,.slice (some ⟨nb,off,none⟩) NX.length nc,.slice oa ol oc] 24)).heap.size:=Nat.lt_of_lt_of_le hnb X1.out.size;clear cx B1;unfold auV;go_enter Tryz.func58,Tryz.ntmps58;go_wp2;generalize w.alloc (.cells #[.string ⟨bs.toArray⟩,.slice (some ⟨nb,off,none⟩) NX.length nc,.slice oa ol oc] 24)=w1 at *;have HDr:Hid (Below w1.heap.size w1 w1.drew):=(Below.refl _ _).drew;refine wp_region_quiet (C:=fun w'=>Below w1.heap.size w1 w') (by kernel_rfl) (by kernel_rfl) HDr.out ?_;refine QW.out (l:=_::_) ?_
 iterate 4 (refine QW.take (by rfl) ?_;apply Exists.intro;refine⟨fun w' hw'=>?_,?_⟩;(·(have g0:=(hw'.cell (p:=⟨w.heap.size,0,none⟩) hl1).trans c0;have g1:=(hw'.cell (p:=⟨w.heap.size,1,none⟩) hl1).trans c1;have g2:=(hw'.cell (p:=⟨w.heap.size,2,none⟩) hl1).trans c2;have g3:=(hw'.cell (p:=⟨nb,off+(m+c),none⟩) hl2).trans c3;go_simp;first|done|(first|done|rfl)));try simp only[Act.put,List.setIfInBounds_toArray,List.set_cons_zero,List.set_cons_succ])
 iterate 1 (refine QW.take (by rfl) ?_;apply Exists.intro;refine⟨fun w' hw'=>?_,?_⟩;(·(have g0:=(hw'.cell (p:=⟨w.heap.size,0,none⟩) hl1).trans c0;have g1:=(hw'.cell (p:=⟨w.heap.size,1,none⟩) hl1).trans c1;have g2:=(hw'.cell (p:=⟨w.heap.size,2,none⟩) hl1).trans c2;have g3:=(hw'.cell (p:=⟨nb,off+(m+c),none⟩) hl2).trans c3;go_simp;(refine(hwd _).mono ?_;rintro e w2 ⟨rfl,x2⟩;exact⟨rfl,hw'.trans (x2.mono hw'.size)⟩)));try simp only[Act.put,List.setIfInBounds_toArray,List.set_cons_zero,List.set_cons_succ])
 iterate 10 (refine QW.take (by rfl) ?_;apply Exists.intro;refine⟨fun w' hw'=>?_,?_⟩;(·(have g0:=(hw'.cell (p:=⟨w.heap.size,0,none⟩) hl1).trans c0;have g1:=(hw'.cell (p:=⟨w.heap.size,1,none⟩) hl1).trans c1;have g2:=(hw'.cell (p:=⟨w.heap.size,2,none⟩) hl1).trans c2;have g3:=(hw'.cell (p:=⟨nb,off+(m+c),none⟩) hl2).trans c3;go_simp;first|done|(first|done|rfl)));try simp only[Act.put,List.setIfInBounds_toArray,List.set_cons_zero,List.set_cons_succ])
 refine QW.nil ?_;intro w7 x7;have X7:=qaa (bt X1.out x7 (Nat.le_refl _));clear x7 c0 c1 c2 c3;go_wp2;go_ret;exact⟨rfl,X7.out⟩
abbrev RN:=Value×List Nat
structure Rws (w:World) (base:Nat) (R:List RN):Prop where
 own:∀j (h:j<R.length),qan w base (R[j]).1 (R[j]).2
 ap:∀j (h:j<R.length) k (h':k<R.length),j≠k→∀b,(R[j]).1.ownBlock=some b→¬(R[k]).1.ownBlock=some b
section
variable {w w':World} {base:Nat} {R:List RN}
theorem Rws.below (h:Rws w base R) (x:Below w.heap.size w w'):Rws w' base R:=⟨fun j hj=>own_below (h.own j hj) x,h.ap⟩
theorem Rws.kept {F:Nat→Prop} (h:Rws w base R) (x:Kept F w w') (hF:∀j (h:j<R.length) b,(R[j]).1.ownBlock=some b→¬F b):Rws w' base R:=⟨fun j hj=>qai (h.own j hj) x (hF j hj),h.ap⟩
theorem Rws.upd {F:Nat→Prop} (h:Rws w base R) {i:Nat} (hi:i<R.length) {v':Value} {L':List Nat} (h1:qan w' base v' L') (hk:Kept F w w') (hF:∀b,F b→(R[i]).1.ownBlock=some b) (hv:∀b,v'.ownBlock=some b→(R[i]).1.ownBlock=some b∨w.heap.size≤b):Rws w' base (R.set i (v',L')):=by
 refine⟨fun j hj=>?_,fun j hj k hk' hne b hb hb2=>?_⟩
 ·rw[List.length_set] at hj
  by_cases hji:i=j
  ·subst hji
   rw[List.getElem_set_self];exact h1
  ·rw[List.getElem_set_ne hji]
   exact qai (h.own j hj) hk (fun b hb hf=>h.ap j hj i hi (fun e=>hji e.symm) b hb (hF b hf))
 ·rw[List.length_set] at hj hk'
  have hlt:∀m (hm:m<R.length) b,(R[m]).1.ownBlock=some b→b<w.heap.size:=fun m hm b hb=>(World.ownsRow.lt (show w.ownsRow base 3 1 (R[m]).1 _ (qab _) from h.own m hm) b hb).2
  by_cases hji:i=j
  ·subst hji
   rw[List.getElem_set_self] at hb;rw[List.getElem_set_ne hne] at hb2;rcases hv b hb with h3|h3
   ·exact h.ap i hi k hk' hne b h3 hb2
   ·have:=hlt k hk' b hb2;omega
  ·rw[List.getElem_set_ne hji] at hb
   by_cases hki:i=k
   ·subst hki
    rw[List.getElem_set_self] at hb2;rcases hv b hb2 with h3|h3
    ·exact h.ap j hj i hi hne b hb h3
    ·have:=hlt j hj b hb;omega
   ·rw[List.getElem_set_ne hki] at hb2
    exact h.ap j hj k hk' hne b hb hb2
theorem Rws.app (h:Rws w base R) {i:Nat} (hi:i<R.length) {v':Value} {x:Nat} {L:List Nat} (h1:w'.ownsRow base 3 1 v' (L.length+1) (qab L++[.int .i64 (x:Int)])) (h2:qbb w w' (R[i]).1 v'):Rws w' base (R.set i (v',L++[x])):=by
 have o:qan w' base v' (L++[x]):=by
  unfold qan;rw[qa1,List.length_append,List.length_singleton];exact h1
 rcases h2 with⟨q,a,b,c⟩|⟨a,b⟩
 ·exact h.upd hi o (qae c) (fun k hk=>a.trans hk) (fun k hk=>.inl (by rw[a,←b];exact hk))
 ·exact h.upd (F:=fun _=>False) hi o (Kept.of_below (qad a)) (fun k hk=>hk.elim) (fun k hk=>.inr (b k hk))
theorem Rws.store (h:Rws w base R) {i:Nat} (hi:i<R.length) {g n cap:Nat} {L:List Nat} (hR:R[i]=(.slice (some ⟨g,0,none⟩) n cap,L)) (k x:Nat):Rws (w.setCell ⟨g,k,none⟩ (.int .i64 (x:Int))) base (R.set i (.slice (some ⟨g,0,none⟩) n cap,L.set k x)):=by
 have ho:=h.own i hi;rw[hR] at ho;obtain⟨o1,k1⟩:=ho.store k x;exact h.upd hi o1 k1 (fun b hb=>by rw[hR,hb];rfl) (fun b hb=>.inl (by rw[hR];exact hb))
theorem Rws.cons (h:Rws w base R) (x:Below w.heap.size w w') {v:Value} {L:List Nat} (ho:qan w' base v L) (hb:∀b,v.ownBlock=some b→w.heap.size≤b):Rws w' base (R++[(v,L)]):=by
 have h':=h.below x;have hlt:∀m (hm:m<R.length) b,(R[m]).1.ownBlock=some b→b<w.heap.size:=fun m hm b hb=>(World.ownsRow.lt (show w.ownsRow base 3 1 (R[m]).1 _ (qab _) from h.own m hm) b hb).2
 refine⟨fun j hj=>?_,fun j hj k hk hne b h1 h2=>?_⟩
 ·by_cases hjl:j<R.length
  ·rw[List.getElem_append_left hjl];exact h'.own j hjl
  ·have:j=R.length:=by rw[List.length_append,List.length_singleton] at hj;omega
   subst this;rw[List.getElem_append_right (Nat.le_refl _)];simpa using ho
 ·by_cases hjl:j<R.length
  ·rw[List.getElem_append_left hjl] at h1
   by_cases hkl:k<R.length
   ·rw[List.getElem_append_left hkl] at h2;exact h.ap j hjl k hkl hne b h1 h2
   ·have:k=R.length:=by rw[List.length_append,List.length_singleton] at hk;omega
    subst this;rw[List.getElem_append_right (Nat.le_refl _)] at h2;have:=hlt j hjl b h1;have:=hb b (by simpa using h2);omega
  ·have:j=R.length:=by rw[List.length_append,List.length_singleton] at hj;omega
   subst this;rw[List.getElem_append_right (Nat.le_refl _)] at h1;have hkl:k<R.length:=by rw[List.length_append,List.length_singleton] at hk;omega
   rw[List.getElem_append_left hkl] at h2;have:=hlt k hkl b h2;have:=hb b (by simpa using h1);omega
theorem Rws.nil (w:World) (base:Nat):Rws w base []:=⟨fun j hj=>(by cases hj),fun j hj=>(by cases hj)⟩
end
def qfj (w:World) (base:Nat) (v:Value) (L:List Bool):Prop:=w.ownsRow base 4 1 v L.length (L.map Value.bool)
theorem qcz (n:Nat):(madeCells (Value.bool false).cells (n*1)).toList=(List.replicate n false).map Value.bool:=by
 simp only[madeCells,Value.cells,List.map_replicate,Nat.mul_one];rw[List.eq_replicate_iff];refine⟨by simp,fun b hb=>?_⟩;simp only[Array.toList_map,List.mem_map] at hb;obtain⟨x,_,rfl⟩:=hb;simp[Nat.mod_one]
theorem Tryz.info4n:(Tryz.prog.info? 4).map (fun i=>(i.zero,i.size,i.bytes))=some (some (.bool false),1,1):=by kernel_rfl
theorem qfj.len {w:World} {base g cap n:Nat} {L:List Bool} (h:qfj w base (.slice (some ⟨g,0,none⟩) n cap) L):n=L.length:=by
 have hh:w.ownsRow base 4 1 (.slice (some ⟨g,0,none⟩) n cap) L.length (L.map Value.bool):=h;rcases hh.2 with⟨e,e2⟩|⟨g',c',cur,e,_⟩
 ·cases e
 ·injection e with _ e2 _
theorem qfj.cell {w:World} {base g cap n:Nat} {L:List Bool} (h:qfj w base (.slice (some ⟨g,0,none⟩) n cap) L) {i:Nat} (hi:i<L.length):w.cell? ⟨g,i,none⟩=some (.bool L[i])∧w.frozen? ⟨g,i,none⟩=false:=by
 obtain rfl:=h.len;have hh:w.ownsRow base 4 1 (.slice (some ⟨g,0,none⟩) L.length cap) L.length (L.map Value.bool):=h;exact⟨by rw[hh.cellAt i (by omega)];simp[hi],hh.frozenAt _⟩
theorem qfj.store {w:World} {base g cap n:Nat} {L:List Bool} (h:qfj w base (.slice (some ⟨g,0,none⟩) n cap) L) (i:Nat) (x:Bool):qfj (w.setCell ⟨g,i,none⟩ (.bool x)) base (.slice (some ⟨g,0,none⟩) n cap) (L.set i x)∧Kept (fun k=>k=g) w (w.setCell ⟨g,i,none⟩ (.bool x)):=by
 obtain rfl:=h.len;have hh:w.ownsRow base 4 1 (.slice (some ⟨g,0,none⟩) L.length cap) L.length (L.map Value.bool):=h;obtain⟨h1,h2⟩:=hh.stored i (.bool x);refine⟨?_,(qae h2).mono (fun k hk=>by injection hk with hk;exact hk.symm)⟩;unfold qfj;rw[List.length_set,List.map_set];exact h1
theorem qan.slot {w:World} {base g cap n:Nat} {L:List Nat} (h:qan w base (.slice (some ⟨g,0,none⟩) n cap) L) {i:Nat} (hi:i<L.length):w.cell? ⟨g,i,none⟩=some (.int .i64 (L[i]:Int))∧w.frozen? ⟨g,i,none⟩=false:=by
 refine⟨h.cell hi,?_⟩;have hh:w.ownsRow base 3 1 (.slice (some ⟨g,0,none⟩) n cap) L.length (qab L):=h;have hn:n=L.length:=by
  rcases hh.2 with⟨e,e2⟩|⟨g',c',cur,e,_⟩
  ·cases e
  ·injection e with _ e2 _
 subst hn;exact hh.frozenAt _
def rmC (r:Rm):List Value:=[.int .i64 (r.a:Int),.int .i64 (r.m:Int),.int .i64 (r.e:Int)]
def qao:List Rm→List Value
 |[]=>[]
 |r::R=>rmC r++qao R
theorem qa0:∀R:List Rm,(qao R).length=R.length*3
 |[]=>rfl
 |r::R=>by rw[qao,List.length_append,qa0 R,List.length_cons];simp[rmC];omega
theorem qc0 (r:Rm):∀R:List Rm,qao (R++[r])=qao R++rmC r
 |[]=>by simp[qao]
 |x::R=>by rw[List.cons_append,qao,qao,qc0 r R,List.append_assoc]
theorem qaz:∀(R:List Rm) (k j:Nat),k<R.length→j<3→(qao R)[k*3+j]? =(rmC (gR R k))[j]?
 |[],k,j,h,_=>by cases h
 |r::R,0,j,_,hj=>by
  rw[qao,List.getElem?_append_left (by simp[rmC];omega)];simp[gR]
 |r::R,k+1,j,h,hj=>by
  rw[qao,List.getElem?_append_right (by simp[rmC];omega)];have e:(k+1)*3+j-(rmC r).length=k*3+j:=by simp[rmC];omega
  rw[e,qaz R k j (by simpa using h) hj];simp[gR]
theorem qgn (R:List Rm) (k:Nat) (h:k<R.length) (m:Nat):(qao R).set (k*3+1) (.int .i64 (m:Int))=qao (R.set k ⟨(gR R k).a,m,(gR R k).e⟩):=by
 refine List.ext_getElem? (fun i=>?_);rw[List.getElem?_set];by_cases hi:i<R.length*3
 ·have hd:=Nat.div_add_mod i 3
  obtain⟨q,j,hj,rfl⟩:∃q j,j<3∧i=q*3+j:=⟨i/3,i%3,by omega,by omega⟩;rw[qaz (R.set k _) q j (by rw[List.length_set];omega) hj,qc5 R h,qa0];by_cases e:q=k
  ·subst e
   rw[if_pos rfl]
   match j,hj with
   |0,_=>rw[if_neg (by omega),qaz _ _ _ h (by omega)];simp[rmC]
   |1,_=>rw[if_pos rfl,if_pos (by omega)];simp[rmC]
   |2,_=>rw[if_neg (by omega),qaz _ _ _ h (by omega)];simp[rmC]
  ·rw[if_neg (by omega),if_neg e,qaz _ _ _ (by omega) hj]
 ·rw[if_neg (by omega),List.getElem?_eq_none (by rw[qa0];omega),List.getElem?_eq_none (by rw[qa0,List.length_set];omega)]
def qes (w:World) (base:Nat) (v:Value) (R:List Rm):Prop:=w.ownsRow base 164 3 v R.length (qao R)
theorem qes.shape {w:World} {base:Nat} {v:Value} {R:List Rm} (h:qes w base v R):∃ao cap,v=.slice ao R.length cap:=by
 obtain⟨a,k,e,_⟩:=qag (show w.ownsRow base 164 3 v R.length (qao R) from h);exact⟨a,k,e⟩
theorem qes.at {w:World} {base:Nat} {v:Value} {R:List Rm} (h:qes w base v R) (h0:0<R.length):∃g cap,v=.slice (some ⟨g,0,none⟩) R.length cap:=by
 have hh:w.ownsRow base 164 3 v R.length (qao R):=h;rcases hh.2 with⟨rfl,hn⟩|⟨g,cap,cur,rfl,_⟩
 ·omega
 ·exact⟨g,cap,rfl⟩
section
variable {w:World} {base g cap:Nat} {R:List Rm}
theorem qes.cell (h:qes w base (.slice (some ⟨g,0,none⟩) R.length cap) R) {k j:Nat} (hk:k<R.length) (hj:j<3):w.cell? ⟨g,k*3+j,none⟩=(rmC (gR R k))[j]? :=by
 have hh:w.ownsRow base 164 3 (.slice (some ⟨g,0,none⟩) R.length cap) R.length (qao R):=h;rw[hh.cellAt _ (by omega),qaz R k j hk hj]
theorem qes.mark (h:qes w base (.slice (some ⟨g,0,none⟩) R.length cap) R) {k:Nat} (hk:k<R.length) (m:Nat):
 qes (w.setCell ⟨g,k*3+1,none⟩ (.int .i64 (m:Int))) base (.slice (some ⟨g,0,none⟩) R.length cap) (R.set k ⟨(gR R k).a,m,(gR R k).e⟩)∧Kept (fun b=>b=g) w (w.setCell ⟨g,k*3+1,none⟩ (.int .i64 (m:Int))):=by
 have hh:w.ownsRow base 164 3 (.slice (some ⟨g,0,none⟩) R.length cap) R.length (qao R):=h;obtain⟨h1,h2⟩:=hh.stored (k*3+1) (.int .i64 (m:Int));refine⟨?_,(qae h2).mono (fun b hb=>by injection hb with hb;exact hb.symm)⟩;unfold qes;rw[List.length_set,←qgn R k hk];exact h1
end
structure PrM (w:World) (base pb:Nat) (lv pv ov rv:Value) (L P O:List Nat) (R:List Rm):Prop where
 blk:w.heap[pb]? =some (.cells #[lv,pv,ov,rv] 161 (0,0))
 ge:base≤pb
 rws:Rws w base [(lv,L),(pv,P),(ov,O)]
 own:qes w base rv R
def inP (lv pv ov rv:Value) (b:Nat):Prop:=lv.ownBlock=some b∨pv.ownBlock=some b∨ov.ownBlock=some b∨rv.ownBlock=some b
section
variable {w w':World} {base pb:Nat} {lv pv ov rv:Value} {L P O:List Nat} {R:List Rm}
theorem PrM.kept {F:Nat→Prop} (h:PrM w base pb lv pv ov rv L P O R) (x:Kept F w w') (h1:¬F pb) (h2:∀b,inP lv pv ov rv b→¬F b):PrM w' base pb lv pv ov rv L P O R:=
 ⟨(x.block pb (lt_of_block h.blk) h1).trans h.blk,h.ge,h.rws.kept x (fun j hj b hb=>h2 b (by
   match j,hj with
   |0,_=>exact .inl hb
   |1,_=>exact .inr (.inl hb)
   |2,_=>exact .inr (.inr (.inl hb)))),qai h.own x (fun b hb=>h2 b (.inr (.inr (.inr hb))))⟩
theorem PrM.below (h:PrM w base pb lv pv ov rv L P O R) (x:Below w.heap.size w w'):PrM w' base pb lv pv ov rv L P O R:=
 ⟨(x.block pb (lt_of_block h.blk)).trans h.blk,h.ge,h.rws.below x,own_below h.own x⟩
theorem PrM.notpb (h:PrM w base pb lv pv ov rv L P O R):∀b,inP lv pv ov rv b→¬b=pb:=fun b hb e=>by
 subst e;have hx:∀(j:Nat) (hj:j<3),([(lv,L),(pv,P),(ov,O)]:List RN)[j].1.ownBlock=some b→False:=fun j hj hf=>by
  obtain⟨cs,h2⟩:=qbl (show w.ownsRow base 3 1 _ _ (qab _) from h.rws.own j hj) b hf;rw[h.blk] at h2;simp at h2
 rcases hb with hb|hb|hb|hb
 ·exact hx 0 (by decide) hb
 ·exact hx 1 (by decide) hb
 ·exact hx 2 (by decide) hb
 ·obtain⟨cs,h2⟩:=qbl (show w.ownsRow base 164 3 rv R.length (qao R) from h.own) b hb
  rw[h.blk] at h2;simp at h2
theorem PrM.cells (h:PrM w base pb lv pv ov rv L P O R):w.cell? ⟨pb,0,none⟩=some lv∧w.cell? ⟨pb,1,none⟩=some pv∧w.cell? ⟨pb,2,none⟩=some ov∧w.cell? ⟨pb,3,none⟩=some rv:=
 ⟨by rw[cell_of_row _ _ _ _ _ _ h.blk];rfl,by rw[cell_of_row _ _ _ _ _ _ h.blk];rfl,by rw[cell_of_row _ _ _ _ _ _ h.blk];rfl,by rw[cell_of_row _ _ _ _ _ _ h.blk];rfl⟩
theorem PrM.mark {lg pg rg nl cl np cp cr:Nat} (h:PrM w base pb (.slice (some ⟨lg,0,none⟩) nl cl) (.slice (some ⟨pg,0,none⟩) np cp) ov (.slice (some ⟨rg,0,none⟩) R.length cr) L P O R) (m s q o k:Nat) (hk:k<R.length):
 PrM (((((w.setCell ⟨lg,m,none⟩ (.int .i64 (s:Int))).setCell ⟨lg,q,none⟩ (.int .i64 (o:Int))).setCell ⟨pg,o,none⟩ (.int .i64 (q:Int))).setCell ⟨pg,s,none⟩ (.int .i64 (m:Int))).setCell ⟨rg,k*3+1,none⟩ (.int .i64 ((m+1:Nat):Int))) base pb (.slice (some ⟨lg,0,none⟩) nl cl) (.slice (some ⟨pg,0,none⟩) np cp) ov (.slice (some ⟨rg,0,none⟩) R.length cr) ((L.set m s).set q o) ((P.set o q).set s m) O (R.set k ⟨(gR R k).a,m+1,(gR R k).e⟩)∧
 Kept (inP (.slice (some ⟨lg,0,none⟩) nl cl) (.slice (some ⟨pg,0,none⟩) np cp) ov (.slice (some ⟨rg,0,none⟩) R.length cr)) w (((((w.setCell ⟨lg,m,none⟩ (.int .i64 (s:Int))).setCell ⟨lg,q,none⟩ (.int .i64 (o:Int))).setCell ⟨pg,o,none⟩ (.int .i64 (q:Int))).setCell ⟨pg,s,none⟩ (.int .i64 (m:Int))).setCell ⟨rg,k*3+1,none⟩ (.int .i64 ((m+1:Nat):Int))):=by
 have hl:inP (.slice (some ⟨lg,0,none⟩) nl cl) (.slice (some ⟨pg,0,none⟩) np cp) ov (.slice (some ⟨rg,0,none⟩) R.length cr) lg:=.inl rfl;have hp:inP (.slice (some ⟨lg,0,none⟩) nl cl) (.slice (some ⟨pg,0,none⟩) np cp) ov (.slice (some ⟨rg,0,none⟩) R.length cr) pg:=.inr (.inl rfl);have hr:inP (.slice (some ⟨lg,0,none⟩) nl cl) (.slice (some ⟨pg,0,none⟩) np cp) ov (.slice (some ⟨rg,0,none⟩) R.length cr) rg:=.inr (.inr (.inr rfl));have r1:=h.rws.store (i:=0) (by simp) rfl m s;have r2:=r1.store (i:=0) (by simp) rfl q o;have r3:=r2.store (i:=1) (by simp) rfl o q;have r4:=r3.store (i:=1) (by simp) rfl s m;have oL:w.ownsRow base 3 1 (.slice (some ⟨lg,0,none⟩) nl cl) L.length (qab L):=h.rws.own 0 (by simp);have oP:w.ownsRow base 3 1 (.slice (some ⟨pg,0,none⟩) np cp) P.length (qab P):=h.rws.own 1 (by simp);have oR:w.ownsRow base 164 3 (.slice (some ⟨rg,0,none⟩) R.length cr) R.length (qao R):=h.own;have k4:Kept (fun b=>b=lg∨b=pg) w ((((w.setCell ⟨lg,m,none⟩ (.int .i64 (s:Int))).setCell ⟨lg,q,none⟩ (.int .i64 (o:Int))).setCell ⟨pg,o,none⟩ (.int .i64 (q:Int))).setCell ⟨pg,s,none⟩ (.int .i64 (m:Int))):=
  ((((Kept.refl _ _).setCell (p:=⟨lg,m,none⟩) (.inl rfl) _).setCell (p:=⟨lg,q,none⟩) (.inl rfl) _).setCell (p:=⟨pg,o,none⟩) (.inr rfl) _).setCell (p:=⟨pg,s,none⟩) (.inr rfl) _
 have o4:qes ((((w.setCell ⟨lg,m,none⟩ (.int .i64 (s:Int))).setCell ⟨lg,q,none⟩ (.int .i64 (o:Int))).setCell ⟨pg,o,none⟩ (.int .i64 (q:Int))).setCell ⟨pg,s,none⟩ (.int .i64 (m:Int))) base (.slice (some ⟨rg,0,none⟩) R.length cr) R:=qai oR k4 (fun b hb e=>by
  rcases e with e|e
  ·exact qa5 oR oL (by decide) b hb (by rw[e];rfl)
  ·exact qa5 oR oP (by decide) b hb (by rw[e];rfl))
 obtain⟨o5,k5⟩:=o4.mark hk (m+1);have r5:=r4.kept k5 (fun j hj b hb e=>by
  subst e;exact qa5 (show((((w.setCell ⟨lg,m,none⟩ (.int .i64 (s:Int))).setCell ⟨lg,q,none⟩ (.int .i64 (o:Int))).setCell ⟨pg,o,none⟩ (.int .i64 (q:Int))).setCell ⟨pg,s,none⟩ (.int .i64 (m:Int))).ownsRow base 3 1 _ _ (qab _) from r4.own j hj) o4 (by decide) _ hb rfl)
 have kk:=(k4.mono (G:=inP (.slice (some ⟨lg,0,none⟩) nl cl) (.slice (some ⟨pg,0,none⟩) np cp) ov (.slice (some ⟨rg,0,none⟩) R.length cr)) (fun b hb=>hb.elim (fun e=>e▸hl) (fun e=>e▸hp))).trans (k5.mono (fun b e=>e▸hr));refine⟨⟨(kk.block pb (lt_of_block h.blk) (fun hb=>h.notpb _ hb rfl)).trans h.blk,h.ge,r5,o5⟩,kk⟩
end
end Go.Proofs.YtdgoilkgplnhfaaGreat

