/-
  An arena as a list of nodes, what Make tells of it, in pure words; keys of nodes. Of no program: no condition.
-/
import Derived.Below
import Derived.Carry
import Derived.Deep.DeepCutAuto
import Derived.WalkSmall
import Derived.Test.YtnddhkhmbjeefaaC01
import Derived.Laws.IdiomStrings
import Derived.Laws.MakeOwn
namespace Go.Proofs.Ytnddhkhmbjeefaa
open Go.RowKit
abbrev Nd:=Int×List Int
def lvl (S:List Int) (N:List Nd) (f:Int):Int:=if 2≤f∧f<(N.length:Int)+2 then(N.getD (f-2).toNat (0,[])).1 else(S.length:Int)
def hasR (N:List Nd) (f:Int):Prop:=0≤f∧f<(N.length:Int)+2
instance (N:List Nd) (f:Int):Decidable (hasR N f):=inferInstanceAs (Decidable (_∧_))
structure May (S:List Int) (N:List Nd) (lv:Int) (ks:List Int):Prop where
 ge:0≤lv
 lt:lv<(S.length:Int)
 len:(ks.length:Int)=S.getD lv.toNat 0
 kid:∀f∈ks,hasR N f∧lv<lvl S N f
def One (ks:List Int):Prop:=∀f∈ks,f=ks.getD 0 0
def MkP (S:List Int) (M:Int) (N:List Nd) (lv:Int) (ks:List Int) (f e:Int) (N':List Nd):Prop:=
 (¬May S N lv ks∧f=0∧e=1∧N'=N)∨
 (May S N lv ks∧One ks∧f=ks.getD 0 0∧e=0∧N'=N)∨
 (May S N lv ks∧¬One ks∧(∃i:Nat,N[i]? =some (lv,ks)∧f=(i:Int)+2)∧e=0∧N'=N)∨
 (May S N lv ks∧¬One ks∧(lv,ks)∉N∧M≤(N.length:Int)∧f=0∧e=2∧N'=N)∨
 (May S N lv ks∧¬One ks∧(lv,ks)∉N∧(N.length:Int)<M∧f=(N.length:Int)+2∧e=0∧N'=N++[(lv,ks)])
structure SzOk (S:List Int):Prop where
 ge:1≤S.length
 le:S.length≤12
 each:∀s∈S,1≤s∧s≤256
structure Ok (S:List Int) (M:Int) (N:List Nd):Prop where
 sz:SzOk S
 m0:0≤M
 m1:M≤4398046511104
 few:(N.length:Int)≤M
 nod:N.Nodup
 each:∀i (h:i<N.length),May S (N.take i) (N[i]).1 (N[i]).2∧¬One (N[i]).2
theorem lvl_take {S:List Int} {N:List Nd} {i:Nat} {f:Int} (h:hasR (N.take i) f):lvl S (N.take i) f=lvl S N f:=by
 unfold hasR at h
 rw[List.length_take] at h
 unfold lvl
 rw[List.length_take]
 by_cases h2:2≤f
 ·rw[if_pos ⟨h2,by omega⟩,if_pos ⟨h2,by omega⟩]
  simp only[List.getD_eq_getElem?_getD]
  rw[List.getElem?_take_of_lt (by omega)]
 ·rw[if_neg (fun h=>h2 h.1),if_neg (fun h=>h2 h.1)]
theorem lvl_take_of {N:List Nd} {i:Nat} {f:Int} (h:hasR (N.take i) f):hasR N f:=by
 unfold hasR at *
 rw[List.length_take] at h
 omega
theorem May.up {S:List Int} {N:List Nd} {i:Nat} {lv:Int} {ks:List Int} (h:May S (N.take i) lv ks):May S N lv ks:=
 ⟨h.ge,h.lt,h.len,fun f hf=>⟨lvl_take_of (h.kid f hf).1,by rw[←lvl_take (h.kid f hf).1];exact(h.kid f hf).2⟩⟩
theorem Ok.may {S:List Int} {M:Int} {N:List Nd} (h:Ok S M N) {i:Nat} (hi:i<N.length):May S N (N[i]).1 (N[i]).2:=(h.each i hi).1.up
theorem Ok.nil {S:List Int} {M:Int} (h:SzOk S) (h0:0≤M) (h1:M≤8192):Ok S M []:=⟨h,h0,by omega,by simpa using h0,List.nodup_nil,fun i h=>by simp at h⟩
theorem Ok.take {S:List Int} {M:Int} {N:List Nd} (h:Ok S M N) (n:Nat):Ok S M (N.take n):=by
 refine⟨h.sz,h.m0,h.m1,by have:=h.few;rw[List.length_take];omega,h.nod.sublist (List.take_sublist _ _),fun i hi=>?_⟩
 rw[List.length_take] at hi
 rw[List.getElem_take,List.take_take,Nat.min_eq_left (by omega)]
 exact h.each i (by omega)
theorem Ok.add {S:List Int} {M:Int} {N:List Nd} (h:Ok S M N) {lv:Int} {ks:List Int} (h1:May S N lv ks) (h2:¬One ks) (h3:(lv,ks)∉N) (h4:(N.length:Int)<M):Ok S M (N++[(lv,ks)]):=by
 refine⟨h.sz,h.m0,h.m1,by rw[List.length_append,List.length_singleton];omega,?_,fun i hi=>?_⟩
 ·rw[List.nodup_append]
  refine⟨h.nod,List.nodup_cons.2 ⟨by simp,List.nodup_nil⟩,fun a ha b hb e=>?_⟩
  rw[List.mem_singleton.1 hb] at e
  subst e
  exact h3 ha
 ·by_cases hn:i<N.length
  ·rw[List.getElem_append_left hn,List.take_append_of_le_length (by omega)]
   exact h.each i hn
  ·have:i=N.length:=by rw[List.length_append,List.length_singleton] at hi;omega
   subst this
   rw[List.getElem_append_right (Nat.le_refl _),List.take_left']
   ·simpa using ⟨h1,h2⟩
   ·rfl
theorem MkP.ok {S:List Int} {M:Int} {N N':List Nd} {lv f e:Int} {ks:List Int} (h:Ok S M N) (k:MkP S M N lv ks f e N'):Ok S M N':=by
 rcases k with⟨_,_,_,rfl⟩|⟨_,_,_,_,rfl⟩|⟨_,_,_,_,rfl⟩|⟨_,_,_,_,_,_,rfl⟩|⟨h1,h2,h3,h4,_,_,rfl⟩
 ·exact h
 ·exact h
 ·exact h
 ·exact h
 ·exact h.add h1 h2 h3 h4
theorem mem_of_at {N:List Nd} {i:Nat} {x:Nd} (h:N[i]? =some x):x∈N:=List.mem_of_getElem? h
theorem at_lt {N:List Nd} {i:Nat} {x:Nd} (h:N[i]? =some x):i<N.length:=by
 rcases Nat.lt_or_ge i N.length with h1|h1
 ·exact h1
 ·rw[List.getElem?_eq_none h1] at h;cases h
theorem nodup_at {N:List Nd} (hn:N.Nodup) {i j:Nat} {x:Nd} (h1:N[i]? =some x) (h2:N[j]? =some x):i=j:=by
 have a:=at_lt h1
 have b:=at_lt h2
 rw[List.getElem?_eq_getElem a] at h1
 rw[List.getElem?_eq_getElem b] at h2
 have e:N[i]=N[j]:=(Option.some.inj h1).trans (Option.some.inj h2).symm
 have hp:=List.pairwise_iff_getElem.1 hn
 rcases Nat.lt_trichotomy i j with h|h|h
 ·exact absurd e (hp i j a b h)
 ·exact h
 ·exact absurd e.symm (hp j i b a h)
theorem MkP.one {S:List Int} {M:Int} {N N1 N2:List Nd} {lv f1 e1 f2 e2:Int} {ks:List Int} (h:N.Nodup) (a:MkP S M N lv ks f1 e1 N1) (b:MkP S M N lv ks f2 e2 N2):f1=f2∧e1=e2∧N1=N2:=by
 rcases a with⟨a0,rfl,rfl,rfl⟩|⟨a0,a1,rfl,rfl,rfl⟩|⟨a0,a1,⟨i,a2,rfl⟩,rfl,rfl⟩|⟨a0,a1,a2,a3,rfl,rfl,rfl⟩|⟨a0,a1,a2,a3,rfl,rfl,rfl⟩<;>
 rcases b with⟨b0,rfl,rfl,rfl⟩|⟨b0,b1,rfl,rfl,rfl⟩|⟨b0,b1,⟨j,b2,rfl⟩,rfl,rfl⟩|⟨b0,b1,b2,b3,rfl,rfl,rfl⟩|⟨b0,b1,b2,b3,rfl,rfl,rfl⟩<;>
 first
 |exact⟨rfl,rfl,rfl⟩
 |exact absurd b0 a0
 |exact absurd a0 b0
 |exact absurd b1 a1
 |exact absurd a1 b1
 |(exfalso;exact a2 (mem_of_at b2))
 |(exfalso;exact b2 (mem_of_at a2))
 |(exfalso;omega)
 |(have:=nodup_at h a2 b2;subst this;exact⟨rfl,rfl,rfl⟩)
def keyB (lv:Int) (ks:List Int):List UInt8:=UInt8.ofNat lv.toNat::ks.flatMap fun f=>[UInt8.ofNat (f.toNat/256),UInt8.ofNat (f.toNat%256)]
theorem u8_inj {a b:Nat} (ha:a<256) (hb:b<256) (h:UInt8.ofNat a=UInt8.ofNat b):a=b:=by
 have:=congrArg UInt8.toNat h
 simp[UInt8.toNat_ofNat'] at this
 omega
theorem kids_inj:∀(a b:List Int),(∀f∈a,0≤f∧f<65536)→(∀f∈b,0≤f∧f<65536)→(a.flatMap fun f=>[UInt8.ofNat (f.toNat/256),UInt8.ofNat (f.toNat%256)])=(b.flatMap fun f=>[UInt8.ofNat (f.toNat/256),UInt8.ofNat (f.toNat%256)])→a=b
 |[],[],_,_,_=>rfl
 |[],_::_,_,_,h=>by simp at h
 |_::_,[],_,_,h=>by simp at h
 |x::a,y::b,ha,hb,h=>by
  simp only[List.flatMap_cons,List.cons_append,List.nil_append,List.cons.injEq] at h
  obtain⟨h1,h2,h3⟩:=h
  have hx:=ha x (by simp)
  have hy:=hb y (by simp)
  have e1:=u8_inj (by omega) (by omega) h1
  have e2:=u8_inj (by omega) (by omega) h2
  have e:x=y:=by omega
  rw[e,kids_inj a b (fun f hf=>ha f (by simp[hf])) (fun f hf=>hb f (by simp[hf])) h3]
theorem keyB_inj {l1 l2:Int} {a b:List Int} (h1:0≤l1∧l1<256) (h2:0≤l2∧l2<256) (ha:∀f∈a,0≤f∧f<65536) (hb:∀f∈b,0≤f∧f<65536) (h:keyB l1 a=keyB l2 b):(l1,a)=(l2,b):=by
 unfold keyB at h
 simp only[List.cons.injEq] at h
 have e1:=u8_inj (by omega) (by omega) h.1
 have e2:=kids_inj a b ha hb h.2
 have:l1=l2:=by omega
 rw[this,e2]
theorem keyB_length (lv:Int) (ks:List Int):(keyB lv ks).length=1+2*ks.length:=by
 unfold keyB
 rw[List.length_cons]
 have:(ks.flatMap fun f=>[UInt8.ofNat (f.toNat/256),UInt8.ofNat (f.toNat%256)]).length=2*ks.length:=by
  induction ks with
  |nil=>rfl
  |cons x l ih=>rw[List.flatMap_cons,List.length_append,ih,List.length_cons,List.length_cons];simp;omega
 omega
theorem May.rng {S:List Int} {M:Int} {N N0:List Nd} {lv:Int} {ks:List Int} (h:Ok S M N0) (hl:N.length≤8192) (m:May S N lv ks):(0≤lv∧lv<256)∧(∀f∈ks,0≤f∧f<65536)∧ks.length≤256∧1≤ks.length:=by
 have h1:=m.ge
 have h2:=m.lt
 have h3:=h.sz.le
 have h4:=m.len
 refine⟨⟨h1,by omega⟩,fun f hf=>?_,?_⟩
 ·have:=(m.kid f hf).1
  unfold hasR at this
  omega
 ·have hm:S.getD lv.toNat 0∈S:=by
   rw[List.getD_eq_getElem?_getD,List.getElem?_eq_getElem (by omega)]
   exact List.getElem_mem _
  have:=h.sz.each _ hm
  omega
theorem Ok.key_inj {S:List Int} {M:Int} {N:List Nd} (h:Ok S M N) (hm:M≤8192) {l1 l2:Int} {a b:List Int} (h1:May S N l1 a) (h2:May S N l2 b) (e:keyB l1 a=keyB l2 b):(l1,a)=(l2,b):=by
 have hf:=h.few
 obtain⟨a1,a2,_⟩:=h1.rng h (by omega)
 obtain⟨b1,b2,_⟩:=h2.rng h (by omega)
 exact keyB_inj a1 b1 a2 b2 e
end Go.Proofs.Ytnddhkhmbjeefaa
namespace Go.Proofs.Ytnddhkhmbjeefaa
open Go.RowKit Go.Lib
theorem hide {p:Prop} (h:p):Hid p:=h
theorem bt {N:Nat} {a b c:World} (h:Below N a b) (k:Below b.heap.size b c) (hN:N≤a.heap.size):Below N a c:=h.trans (k.mono (Nat.le_trans hN h.size))
theorem al {w w':World} (h:Below w.heap.size w w') (o:Obj):Below w.heap.size w (w'.alloc o):=h.alloc h.size o
theorem addr_add (b off n:Nat):(⟨b,off,none⟩:Addr).add n=⟨b,off+n,none⟩:=by unfold Addr.add;split<;>simp_all
def Fit (x:Int):Prop:= -9223372036854775808≤x∧x≤9223372036854775807
def pkZ (c:Int) (n:Nat):Nat:=(if c<0 then -(c+1) else c).toNat%n
theorem pkZ_lt (c:Int) {n:Nat} (h:0<n):pkZ c n<n:=Nat.mod_lt _ h
set_option maxRecDepth 100000 in
theorem pick_any (c:Int) (n:Nat) (hc:Fit c) (hn:0<n) (hn2:n≤8589934592) (w:World):Calls Try.prog 14 #[.int .i64 c,.int .i64 n] w fun e w'=>e=.returned (.int .i64 (pkZ c n:Nat))∧w'=w:=by
 unfold Fit at hc
 have hn0:¬(n:Int)=0:=by omega
 by_cases h:c<0
 ·have e:((pkZ c n:Nat):Int)=(-(c+1)).tmod n:=by
   unfold pkZ
   rw[if_pos h,Int.natCast_emod,Int.toNat_of_nonneg (by omega),Int.tmod_eq_emod_of_nonneg (by omega)]
  rw[e]
  clear e
  have w1:IntKind.i64.wrap (c+1)=c+1:=by simp[IntKind.wrap,IntKind.bits,IntKind.signed];omega
  have w2:IntKind.i64.wrap (-(c+1))= -(c+1):=by simp[IntKind.wrap,IntKind.bits,IntKind.signed];omega
  go_enter Try.func14,Try.ntmps14
  rw[Int.neg_tmod]
  go_wp2
  go_ret
  exact⟨rfl,rfl⟩
 ·have e:((pkZ c n:Nat):Int)=c%n:=by
   unfold pkZ
   rw[if_neg h,Int.natCast_emod,Int.toNat_of_nonneg (by omega)]
  rw[e]
  clear e
  go_enter Try.func14,Try.ntmps14
  go_wp2
  go_ret
  exact⟨rfl,rfl⟩
def ZAt (w:World) (ao:Option Addr) (L:List Int):Prop:=L=[]∨∃b off,ao=some ⟨b,off,none⟩∧b<w.heap.size∧∀i,i<L.length→w.cell? ⟨b,off+i,none⟩=some (.int .i64 (L.getD i 0))
theorem ZAt.below {w w':World} {ao:Option Addr} {L:List Int} (h:ZAt w ao L) (hb:Below w.heap.size w w'):ZAt w' ao L:=by
 rcases h with h|⟨b,off,e,h1,h2⟩
 ·exact .inl h
 ·exact .inr ⟨b,off,e,Nat.lt_of_lt_of_le h1 hb.size,fun i hi=>(hb.cell (p:=⟨b,off+i,none⟩) h1).trans (h2 i hi)⟩
theorem ZAt.get {w:World} {ao:Option Addr} {L:List Int} (h:ZAt w ao L) {i:Nat} (hi:i<L.length):∃b off,ao=some ⟨b,off,none⟩∧b<w.heap.size∧w.cell? ⟨b,off+i,none⟩=some (.int .i64 (L.getD i 0)):=by
 rcases h with h|⟨b,off,e,h1,h2⟩
 ·rw[h] at hi;simp at hi
 ·exact⟨b,off,e,h1,h2 i hi⟩
theorem getD_mem {L:List Int} {i:Nat} (h:i<L.length):L.getD i 0∈L:=by
 rw[List.getD_eq_getElem?_getD,List.getElem?_eq_getElem h]
 exact List.getElem_mem _
theorem all_of_getD {L:List Int} {p:Int→Prop} (h:∀i,i<L.length→p (L.getD i 0)):∀f∈L,p f:=fun f hf=>by
 obtain⟨i,hi,rfl⟩:=List.getElem_of_mem hf
 have:=h i hi
 rw[List.getD_eq_getElem?_getD,List.getElem?_eq_getElem hi] at this
 exact this
theorem ext_getD {A B:List Int} (h:A.length=B.length) (e:∀i,i<A.length→A.getD i 0=B.getD i 0):A=B:=by
 apply List.ext_getElem h
 intro i h1 h2
 have:=e i h1
 rw[List.getD_eq_getElem?_getD,List.getD_eq_getElem?_getD,List.getElem?_eq_getElem h1,List.getElem?_eq_getElem h2] at this
 exact this
set_option maxRecDepth 100000 in
set_option maxHeartbeats 1000000 in
theorem sameD_any (a1 a2:Option Addr) (c1 c2:Nat) (A B:List Int) (w:World) (hne:A.length=B.length) (hl:A.length≤140737488351232) (h1:ZAt w a1 A) (h2:ZAt w a2 B):
 Calls Try.prog 52 #[.slice a1 A.length c1,.slice a2 B.length c2] w fun e w'=>e=.returned (.bool (decide (A=B)))∧Below w.heap.size w w':=by
 have H1:=hide h1
 have H2:=hide h2
 clear h1 h2
 have hne':((A.length:Int)==(B.length:Int))=true:=by rw[hne];simp
 have HNE:=hide hne
 clear hne
 go_enter Try.func52,Try.ntmps52
 go_wp2
 go_loopw [5] (fun x wr=>∃k:Nat,k≤A.length∧x=.int .i64 k∧Hid (∀i,i<k→A.getD i 0=B.getD i 0)∧Hid (Below w.heap.size w wr)) (fun x _=>A.length-(RowKit.intOf x).toNat)
 case atStart=>exact⟨0,Nat.zero_le _,rfl,fun i h=>by omega,Below.refl _ _⟩
 case round=>
  obtain⟨k,hk,rfl,HE,HQ⟩:=hrel
  by_cases hlt:k<A.length
  ·have hlt':(k:Int)<A.length:=by omega
   have hlb':(k:Int)<B.length:=by have:=HNE.out;omega
   obtain⟨b1,o1,rfl,hb1,g1⟩:=H1.out.get hlt
   obtain⟨b2,o2,rfl,hb2,g2⟩:=H2.out.get (i:=k) (by have:=HNE.out;omega)
   have q1:=(HQ.out.cell (p:=⟨b1,o1+k,none⟩) hb1).trans g1
   have q2:=(HQ.out.cell (p:=⟨b2,o2+k,none⟩) hb2).trans g2
   clear g1 g2
   by_cases he:A.getD k 0=B.getD k 0
   ·have HE2:Hid (∀i,i<k+1→A.getD i 0=B.getD i 0):=fun i hi=>by
     rcases Nat.lt_or_ge i k with h|h
     ·exact HE.out i h
     ·obtain rfl:i=k:=by omega
      exact he
    have he':(A.getD k 0!=B.getD k 0)=false:=by rw[he];simp
    clear he HE
    generalize A.getD k 0=x at *
    generalize B.getD k 0=y at *
    go_wp2
    go_quiet (fail)
    go_wp2
    go_roundw
    case rel=>exact⟨k+1,by omega,by go_num,HE2,below_drewN HQ.out _⟩
    case measure=>simp[RowKit.intOf];omega
   ·have he':(A.getD k 0!=B.getD k 0)=true:=by simpa using he
    have HD:Hid (decide (A=B)=false):=decide_eq_false (fun e=>he (by rw[e]))
    clear he HE
    generalize A.getD k 0=x at *
    generalize B.getD k 0=y at *
    go_wp2
    go_quiet (fail)
    go_wp2
    go_ret
    exact⟨by rw[HD.out];rfl,below_drewN HQ.out _⟩
  ·have hlt':¬(k:Int)<A.length:=by omega
   have HD:Hid (decide (A=B)=true):=decide_eq_true (ext_getD HNE.out (fun i hi=>HE.out i (by omega)))
   go_wp2
   go_ret
   exact⟨by rw[HD.out];rfl,HQ.out⟩
instance (ks:List Int):Decidable (One ks):=inferInstanceAs (Decidable (∀f∈ks,f=ks.getD 0 0))
set_option maxRecDepth 100000 in
set_option maxHeartbeats 1000000 in
theorem allSame_any (a1:Option Addr) (c1:Nat) (A:List Int) (w:World) (hl:A.length≤140737488351232) (h1:ZAt w a1 A):
 Calls Try.prog 48 #[.slice a1 A.length c1] w fun e w'=>e=.returned (.bool (decide (One A)))∧Below w.heap.size w w':=by
 have H1:=hide h1
 clear h1
 go_enter Try.func48,Try.ntmps48
 go_wp2
 go_loopw [7] (fun x wr=>∃k:Nat,k≤A.length∧x=.int .i64 k∧Hid (∀i,i<k→A.getD i 0=A.getD 0 0)∧Hid (Below w.heap.size w wr)) (fun x _=>A.length-(RowKit.intOf x).toNat)
 case atStart=>exact⟨0,Nat.zero_le _,rfl,fun i h=>by omega,Below.refl _ _⟩
 case round=>
  obtain⟨k,hk,rfl,HE,HQ⟩:=hrel
  by_cases hlt:k<A.length
  ·have hlt':(k:Int)<A.length:=by omega
   have hl0:(0:Int)<A.length:=by omega
   obtain⟨b1,o1,rfl,hb1,g1⟩:=H1.out.get hlt
   obtain⟨b2,o2,e2,hb2,g2⟩:=H1.out.get (i:=0) (by omega)
   injection e2 with e2;injection e2 with e2 e3;subst e2 e3
   have q1:=(HQ.out.cell (p:=⟨b1,o1+k,none⟩) hb1).trans g1
   have q2:=(HQ.out.cell (p:=⟨b1,o1+0,none⟩) hb1).trans g2
   rw[Nat.add_zero] at q2
   clear g1 g2
   by_cases he:A.getD k 0=A.getD 0 0
   ·have HE2:Hid (∀i,i<k+1→A.getD i 0=A.getD 0 0):=fun i hi=>by
     rcases Nat.lt_or_ge i k with h|h
     ·exact HE.out i h
     ·obtain rfl:i=k:=by omega
      exact he
    have he':(A.getD k 0!=A.getD 0 0)=false:=by rw[he];simp
    clear he HE
    generalize A.getD k 0=x at *
    generalize A.getD 0 0=y at *
    go_wp2
    go_roundw
    case rel=>exact⟨k+1,by omega,by go_num,HE2,HQ⟩
    case measure=>simp[RowKit.intOf];omega
   ·have he':(A.getD k 0!=A.getD 0 0)=true:=by simpa using he
    have HD:Hid (decide (One A)=false):=decide_eq_false (fun e=>he (e _ (getD_mem hlt)))
    clear he HE
    generalize A.getD k 0=x at *
    generalize A.getD 0 0=y at *
    go_wp2
    go_ret
    exact⟨by rw[HD.out];rfl,HQ.out⟩
  ·have hlt':¬(k:Int)<A.length:=by omega
   have HD:Hid (decide (One A)=true):=decide_eq_true (all_of_getD (fun i hi=>HE.out i (by omega)))
   go_wp2
   go_ret
   exact⟨by rw[HD.out];rfl,HQ.out⟩
def SzB (A:List Int):Bool:=decide (1≤A.length)&&decide (A.length≤12)&&decide (∀s∈A,1≤s∧s≤256)
theorem SzB_iff (A:List Int):SzB A=true↔SzOk A:=by
 unfold SzB
 simp only[Bool.and_eq_true,decide_eq_true_eq]
 exact⟨fun h=>⟨h.1.1,h.1.2,h.2⟩,fun h=>⟨⟨h.ge,h.le⟩,h.each⟩⟩
theorem SzB_false {A:List Int} (h:¬SzOk A):SzB A=false:=by
 cases e:SzB A
 ·rfl
 ·exact absurd ((SzB_iff A).1 e) h
set_option maxRecDepth 100000 in
set_option maxHeartbeats 1000000 in
theorem areSizes_any (a1:Option Addr) (c1:Nat) (A:List Int) (w:World) (hl:A.length≤140737488351232) (h1:ZAt w a1 A):
 Calls Try.prog 46 #[.slice a1 A.length c1] w fun e w'=>e=.returned (.bool (SzB A))∧Below w.heap.size w w':=by
 have H1:=hide h1
 clear h1
 by_cases h0:A.length<1
 ·have h0':(A.length:Int)<1:=by omega
  have HD:Hid (SzB A=false):=SzB_false (fun h=>by have:=h.ge;omega)
  go_enter Try.func46,Try.ntmps46
  go_wp2
  go_ret
  exact⟨by rw[HD.out];rfl,Below.refl _ _⟩
 by_cases h12:12<A.length
 ·have h0':¬(A.length:Int)<1:=by omega
  have h12':(12:Int)<(A.length:Int):=by omega
  have HD:Hid (SzB A=false):=SzB_false (fun h=>by have:=h.le;omega)
  go_enter Try.func46,Try.ntmps46
  go_wp2
  go_ret
  exact⟨by rw[HD.out];rfl,Below.refl _ _⟩
 have h0':¬(A.length:Int)<1:=by omega
 have h12':¬(12:Int)<(A.length:Int):=by omega
 go_enter Try.func46,Try.ntmps46
 go_wp2
 go_loopw [15] (fun x wr=>∃k:Nat,k≤A.length∧x=.int .i64 k∧Hid (∀i,i<k→1≤A.getD i 0∧A.getD i 0≤256)∧Hid (Below w.heap.size w wr)) (fun x _=>A.length-(RowKit.intOf x).toNat)
 case atStart=>exact⟨0,Nat.zero_le _,rfl,fun i h=>by omega,Below.refl _ _⟩
 case round=>
  obtain⟨k,hk,rfl,HE,HQ⟩:=hrel
  by_cases hlt:k<A.length
  ·have hlt':(k:Int)<A.length:=by omega
   obtain⟨b1,o1,rfl,hb1,g1⟩:=H1.out.get hlt
   have q1:=(HQ.out.cell (p:=⟨b1,o1+k,none⟩) hb1).trans g1
   clear g1
   by_cases he:1≤A.getD k 0∧A.getD k 0≤256
   ·have HE2:Hid (∀i,i<k+1→1≤A.getD i 0∧A.getD i 0≤256):=fun i hi=>by
     rcases Nat.lt_or_ge i k with h|h
     ·exact HE.out i h
     ·obtain rfl:i=k:=by omega
      exact he
    clear HE
    generalize A.getD k 0=x at *
    have e1:¬x<1:=by omega
    have e2:¬256<x:=by omega
    clear he
    go_wp2
    go_roundw
    case rel=>exact⟨k+1,by omega,by go_num,HE2,HQ⟩
    case measure=>simp[RowKit.intOf];omega
   ·have HD:Hid (SzB A=false):=SzB_false (fun h=>he (h.each _ (getD_mem hlt)))
    clear HE
    generalize A.getD k 0=x at *
    by_cases e1:x<1
    ·clear he
     go_wp2
     go_ret
     exact⟨by rw[HD.out];rfl,HQ.out⟩
    ·have e2:256<x:=by omega
     clear he
     go_wp2
     go_ret
     exact⟨by rw[HD.out];rfl,HQ.out⟩
  ·have hlt':¬(k:Int)<A.length:=by omega
   have HD:Hid (SzB A=true):=(SzB_iff A).2 ⟨by omega,by omega,all_of_getD (fun i hi=>HE.out i (by omega))⟩
   go_wp2
   go_ret
   exact⟨by rw[HD.out];rfl,HQ.out⟩
theorem Try.info3:(Try.prog.info? 3).map (fun i=>(i.zero,i.size,i.bytes))=some (some (.int .i64 0),1,8):=by kernel_rfl
theorem Try.info5:(Try.prog.info? 5).map (fun i=>(i.zero,i.size,i.bytes))=some (some (.int .u8 0),1,1):=by kernel_rfl
theorem appK {w w':World} {v v':Value} (h:AppAt w w' v v'):Kept (fun k=>v.ownBlock=some k) w w':=by
 rcases h with⟨g,a,b,c⟩|⟨a,b⟩
 ·exact(kept_of_grown c).mono (fun k hk=>a.trans hk)
 ·exact Kept.of_below (below_of_grown a)
theorem app_below {w0 w w':World} {N n size:Nat} {e:TypeId} {v v':Value} {xs:List Value} (h:Below N w0 w) (ho:w.ownsRow N e size v n xs) (ha:AppAt w w' v v') (hN:N≤w0.heap.size):Below N w0 w':=
 h.trans ((appK ha).below (Nat.le_trans hN h.size) (fun k hk=>(World.ownsRow.lt ho k hk).1))
def zC (L:List Int):List Value:=L.map (Value.int .i64)
theorem zC_length (L:List Int):(zC L).length=L.length:=by simp[zC]
theorem zC_get (L:List Int) {i:Nat} (h:i<L.length):(zC L)[i]? =some (.int .i64 (L.getD i 0)):=by simp[zC,h,List.getD_eq_getElem?_getD]
theorem zC_one (L:List Int):∀u∈zC L,u.oneCell'=true:=fun u hu=>by
 obtain⟨n,_,rfl⟩:=List.mem_map.1 hu
 simp[Value.oneCell']
theorem zC_snoc (L:List Int) (x:Int):zC (L++[x])=zC L++[.int .i64 x]:=by simp[zC]
theorem ZAt.cells {w:World} {a:Addr} {L:List Int} (h:ZAt w (some a) L):∀j u,(zC L)[j]? =some u→w.cell? (a.add j)=some u:=fun j u hu=>by
 have hj:j<L.length:=by
  rcases Nat.lt_or_ge j L.length with h1|h1
  ·exact h1
  ·rw[List.getElem?_eq_none (by rw[zC_length];exact h1)] at hu;cases hu
 obtain⟨b,off,e,_,c⟩:=h.get hj
 injection e with e
 subst e
 rw[zC_get L hj] at hu
 rw[addr_add,c]
 exact hu
def ZBk (w:World) (b:Nat) (L:List Int):Prop:=∃cs,w.heap[b]? =some (.cells cs 3 (0,0))∧∀i,i<L.length→cs[i]? =some (.int .i64 (L.getD i 0))
theorem ZBk.lt {w:World} {b:Nat} {L:List Int} (h:ZBk w b L):b<w.heap.size:=by
 obtain⟨cs,h1,_⟩:=h
 exact lt_of_block h1
theorem ZBk.congr {w w':World} {b:Nat} {L:List Int} (h:ZBk w b L) (e:w'.heap[b]? =w.heap[b]?):ZBk w' b L:=by
 obtain⟨cs,h1,h2⟩:=h
 exact⟨cs,e.trans h1,h2⟩
theorem ZBk.kept {F:Nat→Prop} {w w':World} {b:Nat} {L:List Int} (h:ZBk w b L) (hk:Kept F w w') (hF:¬F b):ZBk w' b L:=h.congr (hk.block b h.lt hF)
theorem ZBk.below {w w':World} {b:Nat} {L:List Int} (h:ZBk w b L) (hb:Below w.heap.size w w'):ZBk w' b L:=h.congr (hb.block b h.lt)
theorem ZBk.at {w:World} {b:Nat} {L:List Int} (h:ZBk w b L):ZAt w (some ⟨b,0,none⟩) L:=by
 have hb:=h.lt
 obtain⟨cs,h1,h2⟩:=h
 exact .inr ⟨b,0,rfl,hb,fun i hi=>by rw[Nat.zero_add,cell_of_row w b i _ _ _ h1];exact h2 i hi⟩
theorem ZBk.cell {w:World} {b:Nat} {L:List Int} (h:ZBk w b L) {i:Nat} (hi:i<L.length):w.cell? ⟨b,i,none⟩=some (.int .i64 (L.getD i 0)):=by
 obtain⟨cs,h1,h2⟩:=h
 rw[cell_of_row w b i _ _ _ h1]
 exact h2 i hi
theorem ZBk.take {w:World} {b:Nat} {L:List Int} (h:ZBk w b L) (k:Nat):ZBk w b (L.take k):=by
 obtain⟨cs,h1,h2⟩:=h
 refine⟨cs,h1,fun i hi=>?_⟩
 rw[List.length_take] at hi
 rw[h2 i (by omega)]
 simp only[List.getD_eq_getElem?_getD]
 rw[List.getElem?_take_of_lt (by omega)]
theorem own_blk {w:World} {base:Nat} {v:Value} {L:List Int} (h:w.ownsRow base 3 1 v L.length (zC L)) (h0:0<L.length):∃g cap,v=.slice (some ⟨g,0,none⟩) L.length cap∧base≤g∧ZBk w g L:=by
 rcases h.2 with⟨_,h2⟩|⟨g,cap,cur,rfl,hb,hg,h1,h2,h3,h4⟩
 ·omega
 ·refine⟨g,cap,rfl,hb,cur,hg,fun i hi=>?_⟩
  rw[←zC_get L hi,←h4,List.getElem?_take_of_lt (by omega),Array.getElem?_toList]
set_option maxRecDepth 100000 in
set_option maxHeartbeats 1000000 in
theorem clone_any (a:Addr) (cap:Nat) (L:List Int) (w:World) (hl:L.length≤65536) (h0:0<L.length) (hat:ZAt w (some a) L):
 Calls Try.prog 42 #[.slice (some a) L.length cap] w fun e w'=>(∃g c,e=.returned (.slice (some ⟨g,0,none⟩) L.length c)∧w'.ownsRow w.heap.size 3 1 (.slice (some ⟨g,0,none⟩) L.length c) L.length (zC L)∧ZBk w' g L∧w.heap.size≤g)∧Below w.heap.size w w':=by
 obtain⟨i3,hi3,hz30,hz31,hz32⟩:=info_parts Try.info3
 have hnil:=fun(a:Option Addr) (n c:Nat) (W:World)=>run_eql_slice_nil (P:=Try.prog) W 22 3 a n c 0 0 Try.underlying22
 have hb1:Below w.heap.size w (w.alloc (.cells #[] 3)):=(Below.refl _ _).alloc (Nat.le_refl _) _
 have HN:=hide (hat.below hb1).cells
 have HO:Hid ((w.alloc (.cells #[] 3)).ownsRow w.heap.size 3 1 (.slice (some ⟨w.heap.size,0,none⟩) 0 0) 0 []):=⟨rfl,.inr ⟨w.heap.size,0,#[],rfl,Nat.le_refl _,by show(w.heap.push _)[_]? =_;simp,Nat.le_refl _,by decide,rfl,rfl⟩⟩
 have HB:=hide hb1
 have HL:Hid ((zC L).length=L.length*1):=by unfold Hid;rw[zC_length,Nat.mul_one]
 have H0:=hide h0
 clear hat hb1 h0
 go_enter Try.func42,Try.ntmps42
 go_wp2_with (at_builtin;refine wpList_append_view rfl (.tmp 5) (.tmp 6) 22 rfl w.heap.size 3 i3 (.int .i64 0) 1 8 Try.underlying22 hi3 hz30 hz31 hz32 rfl (by decide) _ 0 [] rfl HO.out a L.length cap (zC L) rfl HL.out HN.out (zC_one L) H0.out (by unfold maxLen;omega) (by omega) HB.out.size ?_;intro v8 w8 h1 h2;have H1:=hide h1;have H2:=hide h2;clear h1 h2)
 go_ret
 have o:=H1.out
 rw[Nat.zero_add,List.nil_append] at o
 obtain⟨g,c,rfl,hg,hz⟩:=own_blk o H0.out
 exact⟨⟨g,c,rfl,o,hz,hg⟩,app_below HB.out HO.out H2.out (Nat.le_refl _)⟩
def uC (L:List UInt8):List Value:=L.map fun b=>Value.int .u8 (b.toNat:Int)
theorem keyB_snoc (lv:Int) (A:List Int) (x:Int):keyB lv (A++[x])=keyB lv A++[UInt8.ofNat (x.toNat/256),UInt8.ofNat (x.toNat%256)]:=by simp[keyB]
theorem uC_key_snoc (lv:Int) (A:List Int) (x:Int) (h0:0≤x) (h1:x<65536):uC (keyB lv (A++[x]))=uC (keyB lv A)++[.int .u8 (x/256),.int .u8 (x%256)]:=by
 rw[keyB_snoc]
 unfold uC
 rw[List.map_append]
 obtain⟨n,rfl⟩:∃n:Nat,x=n:=⟨x.toNat,by omega⟩
 simp[UInt8.toNat_ofNat']
 omega
theorem take_snoc {A:List Int} {k:Nat} (h:k<A.length):A.take (k+1)=A.take k++[A.getD k 0]:=by
 rw[List.take_add_one,List.getElem?_eq_getElem h,List.getD_eq_getElem?_getD,List.getElem?_eq_getElem h]
 rfl
theorem two_new (w:World) (x y:Value) (t:TypeId) (j:Nat) (u:Value) (hu:([x,y]:List Value)[j]? =some u):(w.alloc (.cells #[x,y] t)).cell? ((⟨w.heap.size,0,none⟩:Addr).add j)=some u:=by
 match j,hu with
 |0,hu=>simp at hu;subst hu;simp[Addr.add]
 |1,hu=>simp at hu;subst hu;simp[Addr.add]
theorem one_new (w:World) (x:Value) (t:TypeId) (j:Nat) (u:Value) (hu:([x]:List Value)[j]? =some u):(w.alloc (.cells #[x] t)).cell? ((⟨w.heap.size,0,none⟩:Addr).add j)=some u:=by
 match j,hu with
 |0,hu=>simp at hu;subst hu;simp[Addr.add]
set_option maxRecDepth 100000 in
set_option maxHeartbeats 1000000 in
theorem key_any (lv:Int) (ao:Option Addr) (cap:Nat) (A:List Int) (w:World) (h0:0≤lv) (h1:lv<256) (hA:∀f∈A,0≤f∧f<65536) (hl:A.length≤256) (hz:ZAt w ao A):
 Calls Try.prog 49 #[.int .i64 lv,.slice ao A.length cap] w fun e w'=>e=.returned (.string ⟨(keyB lv A).toArray⟩)∧Below w.heap.size w w':=by
 obtain⟨i5,hi5,hz50,hz51,hz52⟩:=info_parts Try.info5
 have HZ:=hide hz
 have HA:=hide hA
 clear hz hA
 have e3:IntKind.u8.wrap lv=lv:=by simp[IntKind.wrap,IntKind.bits,IntKind.signed];omega
 have HK0:Hid (uC (keyB lv [])=[]++[Value.int .u8 lv]):=by
  unfold Hid keyB uC
  obtain⟨n,rfl⟩:∃n:Nat,lv=n:=⟨lv.toNat,by omega⟩
  simp[UInt8.toNat_ofNat']
  omega
 have HL0:Hid ((keyB lv []).length=1):=by unfold Hid;rw[keyB_length];rfl
 go_enter Try.func49,Try.ntmps49
 go_upto_region 3 with(first
  |(at_make;refine wpList_make_own _ rfl (.const (.int .i64 0)) (.tmp 11) 110 rfl w.heap.size 5 i5 (.int .u8 0) 1 Try.underlying110 hi5 hz50 hz51 .i64 .i64 _ (1+2*A.length) rfl rfl (by push_cast;rfl) (by rw[hz52];omega) (by unfold maxLen;omega) (Nat.le_refl _) ?_;intro w1 m1 m2;have M1:=hide m1;have M2:=hide (below_of_grown m2);clear m1 m2)
  |(at_builtin;refine wpList_append_view rfl (.tmp 13) (.tmp 16) 110 rfl w.heap.size 5 i5 (.int .u8 0) 1 1 Try.underlying110 hi5 hz50 hz51 hz52 rfl (by decide) _ 0 [] rfl (own_below M1.out (al (Below.refl _ _) _)) ⟨w1.heap.size,0,none⟩ 1 1 [.int .u8 lv] rfl rfl (one_new w1 _ _) (by simp[Value.oneCell']) (by decide) (by unfold maxLen;omega) (by omega) (Nat.le_trans M2.out.size (al (Below.refl _ w1) _).size) ?_;intro v2 w2 h1 h2;have H1:=hide h1;have H2:=hide (app_below (al M2.out _) (own_below M1.out (al (Below.refl _ _) _)) h2 (Nat.le_refl _));clear h1 h2))
 have S2:Hid (w2.ownsRow w.heap.size 5 1 v2 (keyB lv (A.take 0)).length (uC (keyB lv (A.take 0)))):=by
  unfold Hid
  rw[List.take_zero,HK0.out,HL0.out]
  exact H1.out
 obtain⟨ao2,cap2,hv2,_⟩:=own_shape H1.out
 rw[Nat.zero_add] at hv2
 subst hv2
 clear H1 M1 M2 HK0 HL0
 go_wp2
 go_loopw [5,20] (fun v x wr=>∃k:Nat,k≤A.length∧x=.int .i64 k∧Hid (wr.ownsRow w.heap.size 5 1 v (keyB lv (A.take k)).length (uC (keyB lv (A.take k))))∧Hid (Below w.heap.size w wr)) (fun _ x _=>A.length-(RowKit.intOf x).toNat)
 case atStart=>exact⟨0,Nat.zero_le _,rfl,S2,H2⟩
 case round=>
  obtain⟨k,hk,rfl,S3,HQ⟩:=hrel
  clear S2 H2
  obtain⟨ao3,cap3,hv3,hp3⟩:=own_shape S3.out
  have hkl:(keyB lv (A.take k)).length=1+2*k:=by rw[keyB_length,List.length_take];omega
  rw[hkl] at S3 hv3 hp3
  clear hkl
  subst hv3
  by_cases hlt:k<A.length
  ·have hlt':(k:Int)<A.length:=by omega
   obtain⟨b1,o1,rfl,hb1,g1⟩:=HZ.out.get hlt
   have q1:=(HQ.out.cell (p:=⟨b1,o1+k,none⟩) hb1).trans g1
   have hr:=HA.out _ (getD_mem hlt)
   have HS:=hide (take_snoc hlt)
   clear g1
   generalize A.getD k 0=x at *
   have HU:=hide (uC_key_snoc lv (A.take k) x hr.1 hr.2)
   have e4:IntKind.u8.wrap (x/256)=x/256:=by simp[IntKind.wrap,IntKind.bits,IntKind.signed];omega
   have e5:IntKind.u8.wrap x=x%256:=by simp[IntKind.wrap,IntKind.bits,IntKind.signed]
   have HL:Hid ((uC (keyB lv (A.take k))).length=(1+2*k)*1):=S3.out.1
   have HSZ:=hide HQ.out.size
   go_wp2_with (at_builtin;refine wpList_append_view rfl (.tmp 24) (.tmp 30) 110 rfl w.heap.size 5 i5 (.int .u8 0) 1 1 Try.underlying110 hi5 hz50 hz51 hz52 rfl (by decide) _ (1+2*k) (uC (keyB lv (A.take k))) rfl (own_below S3.out (al (Below.refl _ _) _)) ⟨wr.heap.size,0,none⟩ 2 2 [.int .u8 (x/256),.int .u8 (x%256)] rfl rfl (two_new wr _ _ _) (by simp[Value.oneCell']) (by decide) (by unfold maxLen;omega) (by omega) (Nat.le_trans HSZ.out (al (Below.refl _ wr) _).size) ?_;intro v4 w4 h1 h2;obtain⟨ao4,cap4,hv4,_⟩:=own_shape h1;subst hv4;have H1:=hide h1;have H2:=hide (app_below (bt HQ.out (al (Below.refl _ _) _) (Nat.le_refl _)) (own_below S3.out (al (Below.refl _ _) _)) h2 (Nat.le_refl _));clear h1 h2)
   go_roundw
   case rel=>
    refine⟨k+1,by omega,by go_num,?_,H2⟩
    unfold Hid
    rw[HS.out,HU.out,keyB_length,List.length_append,List.length_take,Nat.min_eq_left (by omega),show 1+2*(k+[x].length)=1+2*k+2 by simp;omega]
    exact H1.out
   case measure=>simp[RowKit.intOf];omega
  ·have hlt':¬(k:Int)<A.length:=by omega
   obtain rfl:k=A.length:=by omega
   rw[List.take_length] at S3
   obtain⟨g,rfl⟩:=hp3 (by omega)
   have hcv:=run_convert_bytes_back (P:=Try.prog) wr 110 9 5 ⟨g,0,none⟩ cap3 (keyB lv A) Try.underlying110 Try.underlying5 Try.underlying9 (fun j hj=>by
    rw[addr_add,Nat.zero_add,World.ownsRow.cellAt S3.out j (by rw[keyB_length] at hj;omega)]
    simp[uC,hj])
   rw[keyB_length] at hcv
   go_wp2
   go_ret
   exact⟨rfl,HQ.out⟩
end Go.Proofs.Ytnddhkhmbjeefaa

