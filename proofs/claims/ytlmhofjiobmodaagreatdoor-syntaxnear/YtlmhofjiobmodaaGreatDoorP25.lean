/-
  Numbers, addresses and prefixes as lists of bytes: reading and printing, in one another's words. No condition.
-/
import Derived.Lib.ItoaMem
import Derived.Lib.Bytealg
import Derived.Lib.IndexLaws
import Derived.Test.YtlmhofjiobmodaaGreatDoorP23
namespace Go.Proofs.YtlmhofjiobmodaaGreatDoor
open Go.Lib
def qdf (most:Nat):List UInt8→Nat→Option Nat
 |[],n=>some n
 |c::t,n=>if c<48∨57<c then none else if most<n*10+(c.toNat-48) then none else qdf most t (n*10+(c.toNat-48))
def rn (l:List UInt8) (most:Nat):Option Nat:=
 if l=[]∨(1<l.length∧l.getD 0 0=48) then none else qdf most l 0
def qb5 (c:UInt8):Prop:=48≤c∧c≤57
instance (c:UInt8):Decidable (qb5 c):=inferInstanceAs (Decidable (48≤c∧c≤57))
def qci:List UInt8→Nat→Nat
 |[],n=>n
 |c::t,n=>qci t (n*10+(c.toNat-48))
theorem qhi:∀(l:List UInt8) (n:Nat),n≤qci l n
 |[],_=>Nat.le_refl _
 |c::t,n=>Nat.le_trans (by omega) (qhi t _)
theorem qfy {most:Nat}:∀ {l:List UInt8} {n m:Nat},qdf most l n=some m→(∀c∈l,qb5 c)∧qci l n=m∧(n≤most→m≤most)
 |[],n,m,h=>by
  simp only[qdf,Option.some.injEq] at h;exact⟨by simp,h,fun hn=>h▸hn⟩
 |c::t,n,m,h=>by
  simp only[qdf] at h;split at h
  ·cases h
  ·split at h
   ·cases h
   ·rename_i h1 h2
    obtain⟨a,b,d⟩:=qfy h;refine⟨fun x hx=>?_,b,fun _=>d (by omega)⟩;rcases List.mem_cons.1 hx with rfl|hx
    ·rw[not_or,UInt8.not_lt,UInt8.not_lt] at h1
     exact h1
    ·exact a x hx
theorem qje {most:Nat}:∀ {l:List UInt8} {n:Nat},(∀c∈l,qb5 c)→qci l n≤most→qdf most l n=some (qci l n)
 |[],_,_,_=>rfl
 |c::t,n,h,hm=>by
  have hc:=h c (by simp);have h1:¬(c<48∨57<c):=by rw[not_or,UInt8.not_lt,UInt8.not_lt];exact hc
  have h2:¬(most<n*10+(c.toNat-48)):=by have:=qhi t (n*10+(c.toNat-48));simp only[qci] at hm;omega
  simp only[qdf,if_neg h1,if_neg h2,qci];exact qje (fun x hx=>h x (by simp[hx])) hm
theorem qed {most:Nat} {l:List UInt8} {n:Nat} (h:¬((∀c∈l,qb5 c)∧qci l n≤most)) (hn:n≤most):qdf most l n=none:=by
 cases e:qdf most l n with
 |none=>rfl
 |some m=>
  obtain⟨a,b,c⟩:=qfy e;exact absurd ⟨a,by have:=c hn;omega⟩ h
theorem qcq:∀(l:List UInt8) (c:UInt8) (n:Nat),qci (l++[c]) n=qci l n*10+(c.toNat-48)
 |[],_,_=>rfl
 |x::l,c,n=>by simp only[List.cons_append,qci,qcq l c]
theorem qhj (u:Nat) (h:¬u<10):decDigits u=decDigits (u/10)++[UInt8.ofNat (48+u%10)]:=by rw[decDigits,dif_neg h]
theorem qss (l:List UInt8) (hl:l≠[]) (hd:∀c∈l,qb5 c) (h0:1<l.length→l.getD 0 0≠48):decDigits (qci l 0)=l:=by
 induction hn:l.length using Nat.strongRecOn generalizing l with
 |ind n ih=>
  have hdig:∀c:UInt8,qb5 c→c.toNat-48<10∧UInt8.ofNat (48+(c.toNat-48))=c:=by
   intro c hc;have h1:48≤c.toNat:=UInt8.le_iff_toNat_le.1 hc.1;have h2:c.toNat≤57:=UInt8.le_iff_toNat_le.1 hc.2;refine⟨by omega,?_⟩;rw[show 48+(c.toNat-48)=c.toNat by omega];exact UInt8.ofNat_toNat
  obtain⟨t,c,rfl⟩:∃t c,l=t++[c]:=⟨l.dropLast,l.getLast hl,(List.dropLast_concat_getLast hl).symm⟩;have hc:=hdig c (hd c (by simp));rw[qcq];by_cases ht:t=[]
  ·subst ht
   simp only[qci,Nat.zero_mul,Nat.zero_add,List.nil_append];rw[decDigits_one hc.1,hc.2]
  ·have hpos:0<t.length:=List.length_pos_iff.2 ht
   have hg:t.getD 0 0≠48:=by
    have:=h0 (by simp;omega);rw[List.getD_eq_getElem?_getD,List.getElem?_append_left hpos,←List.getD_eq_getElem?_getD] at this;exact this
   have hi:=ih t.length (by simp at hn;omega) t ht (fun x hx=>hd x (by simp[hx])) (fun _=>hg) rfl;have hv:0<qci t 0:=by
    cases t with
    |nil=>exact absurd rfl ht
    |cons x t=>
     simp only[qci];refine Nat.lt_of_lt_of_le ?_ (qhi t _);have hx:=hd x (by simp);have h1:48≤x.toNat:=UInt8.le_iff_toNat_le.1 hx.1;have hne:x.toNat≠48:=fun e=>hg (by simp;exact UInt8.toNat_inj.1 (by simpa using e))
     omega
   rw[qhj _ (by omega)];rw[show(qci t 0*10+(c.toNat-48))/10=qci t 0 by omega,show(qci t 0*10+(c.toNat-48))%10=c.toNat-48 by omega,hi,hc.2]
theorem qey {l:List UInt8} {n most:Nat} (h:rn l most=some n):l=decDigits n∧n≤most:=by
 unfold rn at h;split at h
 ·cases h
 ·rename_i hc
  rw[not_or] at hc;obtain⟨a,b,c⟩:=qfy h;refine⟨?_,c (Nat.zero_le _)⟩;rw[←b];exact(qss l hc.1 a (fun h1 h2=>hc.2 ⟨h1,h2⟩)).symm
def qbg (c:UInt8):List UInt8→Option (List UInt8×List UInt8)
 |[]=>none
 |x::t=>if x=c then some ([],t) else(qbg c t).map fun p=>(x::p.1,p.2)
theorem qdl {c:UInt8}:∀ {l a b:List UInt8},qbg c l=some (a,b)→l=a++c::b∧c∉a
 |[],_,_,h=>by cases h
 |x::t,a,b,h=>by
  simp only[qbg] at h;split at h
  ·rename_i e
   simp only[Option.some.injEq,Prod.mk.injEq] at h;rw[←h.1,←h.2,e];exact⟨rfl,by simp⟩
  ·rename_i e
   cases h2:qbg c t with
   |none=>rw[h2] at h;cases h
   |some p=>
    obtain⟨p1,p2⟩:=p;rw[h2] at h;simp only[Option.map_some,Option.some.injEq,Prod.mk.injEq] at h;obtain⟨i1,i2⟩:=qdl h2;rw[←h.1,←h.2,i1];exact⟨rfl,by simp;exact⟨fun e'=>e e'.symm,i2⟩⟩
theorem qif {c:UInt8}:∀ {l:List UInt8},qbg c l=none↔c∉l
 |[]=>by simp[qbg]
 |x::t=>by
  simp only[qbg];split
  ·rename_i e;simp[e]
  ·rename_i e
   rw[Option.map_eq_none_iff,qif];simp;exact fun _ e'=>e e'.symm
def qbf (l:List UInt8):Option Nat:=
 (qbg 46 l).bind fun p=>(qbg 46 p.2).bind fun q=>(qbg 46 q.2).bind fun r=>
   (rn p.1 255).bind fun a=>(rn q.1 255).bind fun b=>(rn r.1 255).bind fun c=>(rn r.2 255).bind fun d=>some (W4 a b c d)
def qdb (l:List UInt8):Option (Nat×Nat):=
 match qbg 47 l with
 |none=>(qbf l).map fun n=>(n,32)
 |some p=>(qbf p.1).bind fun n=>(rn p.2 32).bind fun k=>if n%2^(32-k)=0 then some (n,k) else none
end Go.Proofs.YtlmhofjiobmodaaGreatDoor

