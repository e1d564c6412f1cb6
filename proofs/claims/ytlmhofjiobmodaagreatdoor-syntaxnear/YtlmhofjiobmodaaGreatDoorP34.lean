/-
  Where a source is wrong: what stands ahead is right, and what stands behind the next blank changes nothing. Pure. No condition.
-/
import Derived.Test.YtlmhofjiobmodaaGreatDoorP33
import Derived.Test.YtlmhofjiobmodaaGreatDoorP06
set_option maxRecDepth 100000
set_option maxHeartbeats 16000000
namespace Go.Proofs.YtlmhofjiobmodaaGreatDoor
open Go.RowKit Go.Lib
theorem qdp (s:By):∀(a b:By) (i:Nat) (x:SS),qat s i x (a++b)=if (qat s i x a).1=0 then qat s (i+a.length) (qat s i x a).2 b else qat s i x a
 |[],b,i,x=>by simp[qat]
 |c::a,b,i,x=>by
  rw[List.cons_append,qat,qat];by_cases h:(qap s x i (bI c)).1=0
  ·rw[if_pos h,if_pos h,qdp s a b (i+1)]
   rw[List.length_cons,show i+1+a.length=i+(a.length+1) by omega]
  ·rw[if_neg h,if_neg h,if_neg h]
def qbi (s:By) (x:SS) (q:Nat):Int×SS:=if x.st=4 then qav x (qbq s x.fr.toNat q) else qan s x q
theorem qnz {s s':By} {q:Nat} (h:s.take q=s'.take q) (f:Nat):qbq s f q=qbq s' f q:=by unfold qbq;rw[h]
theorem qlr {s s':By} {q:Nat} (h:s.take q=s'.take q) (x:SS):qbi s x q=qbi s' x q:=by
 unfold qbi qan;rw[Int.toNat_natCast,qnz h]
theorem qeg {s s':By} {q:Nat} (h:s.take q=s'.take q) (x:SS) (r:Int):qap s x q r=qap s' x q r:=by
 unfold qap qby qan;simp only[Int.toNat_natCast,qnz h]
theorem qeh {s s':By} {n:Nat} (h:s.take n=s'.take n) {m:Nat} (hm:m≤n):s.take m=s'.take m:=by
 have:=congrArg (List.take m) h
 rwa [List.take_take,List.take_take,Nat.min_eq_left hm] at this
theorem qdq {s s':By}:∀(a:By) (i:Nat) (x:SS),s.take (i+a.length)=s'.take (i+a.length)→qat s i x a=qat s' i x a
 |[],i,x,_=>rfl
 |c::a,i,x,h=>by
  rw[List.length_cons] at h;have e:=qdq (s:=s) (s':=s') a (i+1) (qap s' x i (bI c)).2 (by rw[show i+1+a.length=i+(a.length+1) by omega];exact h);rw[qat,qat,qeg (qeh h (by omega)),e]
theorem qjj (s:By) (x:SS) (q:Int) (h:(qan s x q).1≠0):qan s x q=(82,x):=by
 unfold qan qal at *;split
 ·rename_i h2
  rw[if_pos h2] at h;split
  ·rfl
  ·rename_i h3
   rw[if_neg h3] at h;exact absurd rfl h
 ·rename_i h2
  rw[if_neg h2] at h;split
  ·rfl
  ·rename_i h3
   rw[if_neg h3] at h;exact absurd rfl h
theorem qf2 (s:By) (x:SS) (q:Nat) (h:(qbi s x q).1≠0):∃c:Int,(c=81∨c=82)∧qbi s x q=(c,x):=by
 unfold qbi at *;split
 ·rename_i h4
  rw[if_pos h4] at h;rcases qee x (qbq s x.fr.toNat q) with⟨e,_⟩|e
  ·exact absurd e h
  ·exact⟨81,.inl rfl,e⟩
 ·rename_i h4
  rw[if_neg h4] at h;exact⟨82,.inr rfl,qjj s x q h⟩
theorem qc2 (s:By) (x:SS) (i:Nat) (r:Int):
 (x.st=1∧qap s x i r=(0,if r=10 then { x with st:=0 } else x))∨
 (x.st=5∧qap s x i r=qaz x r)∨(x.st=6∧qap s x i r=qbe x r)∨
 ((x.st=2∨x.st=3∨x.st=4)∧goB x.st r=true∧qap s x i r=(0,x))∨
 ((x.st=2∨x.st=3∨x.st=4)∧(qbi s x i).1=0∧qap s x i r=qag (qbi s x i).2 i r)∨
 ((x.st=2∨x.st=3∨x.st=4)∧goB x.st r≠true∧(qbi s x i).1≠0∧qap s x i r=qbi s x i)∨
 (¬(1≤x.st∧x.st≤6)∧qap s x i r=qag x i r):=by
 unfold qap qby qbi;rw[Int.toNat_natCast];by_cases h4:x.st=4
 ·rw[if_pos h4,if_pos h4]
  by_cases hg:goB 4 r=true
  ·exact .inr (.inr (.inr (.inl ⟨.inr (.inr h4),by rw[h4];exact hg,if_pos hg⟩)))
  ·rw[if_neg hg]
   by_cases he:(qav x (qbq s x.fr.toNat i)).1=0
   ·exact .inr (.inr (.inr (.inr (.inl ⟨.inr (.inr h4),he,if_pos he⟩))))
   ·exact .inr (.inr (.inr (.inr (.inr (.inl ⟨.inr (.inr h4),by rw[h4];exact hg,he,if_neg he⟩)))))
 ·rw[if_neg h4,if_neg h4]
  by_cases h1:x.st=1
  ·exact .inl ⟨h1,if_pos h1⟩
  ·rw[if_neg h1]
   by_cases h5:x.st=5
   ·exact .inr (.inl ⟨h5,if_pos h5⟩)
   ·rw[if_neg h5]
    by_cases h6:x.st=6
    ·exact .inr (.inr (.inl ⟨h6,if_pos h6⟩))
    ·rw[if_neg h6]
     by_cases h23:x.st=2∨x.st=3
     ·have EN:x.st=2∨x.st=3∨x.st=4:=by omega
      rw[if_pos h23];by_cases hg:goB x.st r=true
      ·exact .inr (.inr (.inr (.inl ⟨EN,hg,if_pos hg⟩)))
      ·rw[if_neg hg]
       by_cases he:(qan s x i).1=0
       ·exact .inr (.inr (.inr (.inr (.inl ⟨EN,he,if_pos he⟩))))
       ·exact .inr (.inr (.inr (.inr (.inr (.inl ⟨EN,hg,he,if_neg he⟩)))))
     ·rw[if_neg h23]
      exact .inr (.inr (.inr (.inr (.inr (.inr ⟨by omega,rfl⟩)))))
theorem qij (s:By) (x:SS):
 ((x.st=5∨x.st=6)∧qde s x=(83,x))∨
 ((x.st=2∨x.st=3∨x.st=4)∧(qbi s x s.length).1=0∧(qde s x).1=0)∨
 ((x.st=2∨x.st=3∨x.st=4)∧(qbi s x s.length).1≠0∧qde s x=qbi s x s.length)∨
 (¬(2≤x.st∧x.st≤6)∧(qde s x).1=0):=by
 unfold qde qh4 qbi;by_cases h4:x.st=4
 ·rw[if_pos h4,if_pos h4]
  by_cases he:(qav x (qbq s x.fr.toNat s.length)).1=0
  ·exact .inr (.inl ⟨.inr (.inr h4),he,by rw[if_pos he]⟩)
  ·exact .inr (.inr (.inl ⟨.inr (.inr h4),he,if_neg he⟩))
 ·rw[if_neg h4,if_neg h4]
  by_cases NN:x.st=5∨x.st=6
  ·exact .inl ⟨NN,if_pos NN⟩
  ·rw[if_neg NN]
   by_cases h23:x.st=2∨x.st=3
   ·have EN:x.st=2∨x.st=3∨x.st=4:=by omega
    rw[if_pos h23];by_cases he:(qan s x s.length).1=0
    ·exact .inr (.inl ⟨EN,he,by rw[if_pos he]⟩)
    ·exact .inr (.inr (.inl ⟨EN,he,if_neg he⟩))
   ·rw[if_neg h23]
    exact .inr (.inr (.inr ⟨by omega,rfl⟩))
theorem qjk (y:SS) (q r:Int):(qag y q r).2.fr=q∧((qag y q r).1=80∨(qag y q r).1=0∧((qag y q r).2.st=0∨(qag y q r).2.st=1∨(qag y q r).2.st=5∨((qag y q r).2.st=2∨(qag y q r).2.st=3∨(qag y q r).2.st=4)∧goB (qag y q r).2.st r=true)):=by
 unfold qag;split
 ·exact⟨rfl,.inr ⟨rfl,.inl rfl⟩⟩
 ·split
  ·exact⟨rfl,.inr ⟨rfl,.inr (.inl rfl)⟩⟩
  ·split
   ·rename_i h
    exact⟨rfl,.inr ⟨rfl,.inr (.inr (.inr ⟨.inl rfl,qo1 h⟩))⟩⟩
   ·split
    ·rename_i h
     exact⟨rfl,.inr ⟨rfl,.inr (.inr (.inr ⟨.inr (.inl rfl),by show goB 3 r=true;unfold goB;rw[if_neg (by decide),if_pos rfl];exact h⟩))⟩⟩
    ·split
     ·rename_i h
      exact⟨rfl,.inr ⟨rfl,.inr (.inr (.inr ⟨.inr (.inr rfl),by show goB 4 r=true;unfold goB;rw[if_neg (by decide),if_neg (by decide),h];simp⟩))⟩⟩
     ·split
      ·exact⟨rfl,.inr ⟨rfl,.inr (.inr (.inl rfl))⟩⟩
      ·split
       ·exact⟨rfl,.inr ⟨rfl,.inl rfl⟩⟩
       ·exact⟨rfl,.inl rfl⟩
def Good (s:By) (f:Nat):Prop:=∃x,qat s 0 x0 (s.take f)=(0,x)∧(qde (s.take f) x).1=0
structure InF (s:By) (i:Nat) (x:SS):Prop where
 st:qat s 0 x0 (s.take i)=(0,x)
 f0:0≤x.fr
 big:2≤x.st→x.st≤6→x.fr<i∧Good s x.fr.toNat
 run:x.st=2∨x.st=3∨x.st=4→∀c∈qbq s x.fr.toNat i,goB x.st (bI c)=true
structure Fl (s:By) (i:Nat) (c:Int) (y:SS):Prop where
 f0:0≤y.fr
 f1:y.fr≤i
 good:Good s y.fr.toNat
 c0:c≠0∧c≠84
 run:c≠83→∀b∈qbq s y.fr.toNat i,b≠32∧b≠10
 loc:c≠83→∀s':By,s'.take i=s.take i→∀hi:i<s'.length,((∃h:i<s.length,s'[i]=s[i])∨(s'[i]=32∧y.fr<i))→qat s' 0 x0 s'=(c,y)
theorem qei {s:By} {i:Nat} (hi:i<s.length) {x:SS} (h:qat s 0 x0 (s.take i)=(0,x)) {y:Int×SS} (hy:qap s x i (bI s[i])=y) (hn:y.1≠0):qat s 0 x0 s=y:=by
 have e:s=s.take i++s[i]::s.drop (i+1):=by rw[←List.drop_eq_getElem_cons hi,List.take_append_drop]
 have hl:(s.take i).length=i:=by simp;omega
 have:=qdp s (s.take i) (s[i]::s.drop (i+1)) 0 x0;rw[←e,h,if_pos rfl,hl,Nat.zero_add,qat,hy,if_neg hn] at this;exact this
theorem qc3 {s:By} {i:Nat} (hi:i<s.length) {x:SS} (h:qat s 0 x0 (s.take i)=(0,x)) {y:SS} (hy:qap s x i (bI s[i])=(0,y)):qat s 0 x0 (s.take (i+1))=(0,y):=by
 have e:s.take (i+1)=s.take i++[s[i]]:=by rw[List.take_add_one,List.getElem?_eq_getElem hi];rfl
 have hl:(s.take i).length=i:=by simp;omega
 rw[e,qdp,h,if_pos rfl,hl,Nat.zero_add,qat,hy,if_pos rfl,qat]
theorem qn0 {s:By} {i:Nat} (hi:i≤s.length) {x:SS} (h:qat s 0 x0 (s.take i)=(0,x)) (he:(x.st=2∨x.st=3∨x.st=4)∧(qbi s x i).1=0∨¬(2≤x.st∧x.st≤6)):Good s i:=by
 refine⟨x,h,?_⟩;have hl:(s.take i).length=i:=by simp;omega
 have hloc:qbi (s.take i) x i=qbi s x i:=qlr (by rw[List.take_take,Nat.min_self]) x;rcases qij (s.take i) x with⟨h1,h2⟩|⟨h1,h2,h3⟩|⟨h1,h2,h3⟩|⟨h1,h2⟩
 ·rcases he with⟨h4,_⟩|h4
  ·omega
  ·omega
 ·exact h3
 ·rw[hl,hloc] at h2
  rcases he with⟨_,h4⟩|h4
  ·exact absurd h4 h2
  ·omega
 ·exact h2
theorem qf3 {k:Int} {b:UInt8} (h:goB k (bI b)=true):b≠32∧b≠10:=by
 constructor
 ·rintro rfl
  revert h
  unfold goB;split
  ·decide
  ·split
   ·decide
   ·decide
 ·rintro rfl
  revert h
  unfold goB;split
  ·decide
  ·split
   ·decide
   ·decide
theorem qkj (k:Int):goB k (bI 32)≠true:=fun h=>(qf3 h).1 rfl
theorem InF.start (s:By):InF s 0 x0:=⟨rfl,by decide,fun h _=>absurd h (by decide),fun h=>absurd h (by decide)⟩
theorem qp2 {s:By} {i:Nat} (hi:i<s.length) {x:SS} (h:InF s i x):
 (∃y,qap s x i (bI s[i])=(0,y)∧InF s (i+1) y)∨∃c y,qap s x i (bI s[i])=(c,y)∧Fl s i c y:=by
 obtain⟨hst,hf0,hbig,hrun⟩:=h;have Jt:∀ {c:Int} {y:SS},qap s x i (bI s[i])=(c,y)→c≠0→∀s':By,s'.take i=s.take i→∀hi':i<s'.length,s'[i]=s[i]→qat s' 0 x0 s'=(c,y):=fun {c y} hy hc s' ht hi' hb=>by
  refine qei hi' (x:=x) ?_ ?_ hc
  ·rw[ht,←hst]
   exact qdq _ 0 _ (by simp only[List.length_take];exact qeh ht (by omega))
  ·rw[hb,qeg ht,hy]
 have Me:∀y,qap s x i (bI s[i])=qag y i (bI s[i])→Good s i→(∃y,qap s x i (bI s[i])=(0,y)∧InF s (i+1) y)∨∃c y,qap s x i (bI s[i])=(c,y)∧Fl s i c y:=fun y hy hg=>by
  obtain⟨b1,b2⟩:=qjk y i (bI s[i]);rw[←hy] at b1 b2;generalize hz:qap s x i (bI s[i])=z at *;obtain⟨c,z⟩:=z;simp only at b1 b2;rcases b2 with rfl|⟨rfl,b2⟩
  ·refine .inr ⟨80,z,rfl,by omega,by omega,by rw[b1];exact hg,by decide,fun _ b hb=>?_,fun _ s' ht hi' hb=>?_⟩
   ·rw[b1,Int.toNat_natCast,qki] at hb
    cases hb
   ·rcases hb with⟨_,hb⟩|⟨_,hb⟩
    ·exact Jt rfl (by decide) s' ht hi' hb
    ·omega
  ·refine .inl ⟨z,rfl,qc3 hi hst hz,by omega,fun _ _=>⟨by omega,by rw[b1];exact hg⟩,fun hr c hc=>?_⟩
   rw[b1,Int.toNat_natCast,qjh s hi] at hc;have:c=s[i]:=by simpa using hc
   rw[this];rcases b2 with b2|b2|b2|⟨_,b2⟩
   ·omega
   ·omega
   ·omega
   ·exact b2
 have Ju:∀(x':SS),x'.fr=x.fr→x'.st=5→2≤x.st→x.st≤6→qap s x i (bI s[i])=qb8 x' (bI s[i])→(∃y,qap s x i (bI s[i])=(0,y)∧InF s (i+1) y)∨∃c y,qap s x i (bI s[i])=(c,y)∧Fl s i c y:=fun x' hfr h5 g1 g2 hy=>by
  obtain⟨g3,g4⟩:=hbig g1 g2;unfold qb8 at hy;split at hy
  ·refine .inl ⟨_,hy,qc3 hi hst hy,by show 0≤x'.fr;omega,fun _ _=>⟨by show x'.fr<((i+1:Nat):Int);omega,by show Good s x'.fr.toNat;rw[hfr];exact g4⟩,fun hr=>?_⟩
   have hr:x'.st=2∨x'.st=3∨x'.st=4:=hr;omega
  ·exact .inr ⟨83,_,hy,by omega,by omega,by rw[hfr];exact g4,by decide,fun h=>absurd rfl h,fun h=>absurd rfl h⟩
 rcases qc2 s x i (bI s[i]) with⟨e,hy⟩|⟨e,hy⟩|⟨e,hy⟩|⟨e,hg,hy⟩|⟨e,he,hy⟩|⟨e,hg,he,hy⟩|⟨e,hy⟩
 ·refine .inl ⟨_,hy,qc3 hi hst hy,?_,fun h1 _=>?_,fun h1=>?_⟩
  ·split
   ·exact hf0
   ·exact hf0
  ·split at h1
   ·exact absurd h1 (by show ¬(2:Int)≤0;decide)
   ·omega
  ·split at h1
   ·rcases h1 with h1|h1|h1<;>cases h1
   ·omega
 ·obtain⟨g3,g4⟩:=hbig (by omega) (by omega)
  unfold qaz at hy;split at hy
  ·exact .inl ⟨_,hy,qc3 hi hst hy,hf0,fun h1 _=>absurd h1 (by show ¬(2:Int)≤0;decide),fun h1=>by rcases h1 with h1|h1|h1<;>cases h1⟩
  ·split at hy
   ·exact .inl ⟨_,hy,qc3 hi hst hy,hf0,fun _ _=>⟨by show x.fr<((i+1:Nat):Int);omega,g4⟩,fun h1=>by rcases h1 with h1|h1|h1<;>cases h1⟩
   ·exact Ju x rfl e (by omega) (by omega) hy
 ·obtain⟨g3,g4⟩:=hbig (by omega) (by omega)
  unfold qbe at hy;split at hy
  ·exact Ju { x with st:=5 } rfl rfl (by omega) (by omega) hy
  ·exact .inr ⟨83,_,hy,by omega,by omega,g4,by decide,fun h=>absurd rfl h,fun h=>absurd rfl h⟩
 ·obtain⟨g3,g4⟩:=hbig (by omega) (by omega)
  refine .inl ⟨_,hy,qc3 hi hst hy,hf0,fun _ _=>⟨by omega,g4⟩,fun hr c hc=>?_⟩;rw[qhl s (by have:x.fr.toNat≤i:=(by omega);exact this) hi] at hc;rcases List.mem_append.1 hc with hc|hc
  ·exact hrun hr c hc
  ·have:c=s[i]:=by simpa using hc
   rw[this];exact hg
 ·exact Me _ hy (qn0 (by omega) hst (.inl ⟨e,he⟩))
 ·obtain⟨g3,g4⟩:=hbig (by omega) (by omega)
  obtain⟨c,hc,hcx⟩:=qf2 s x i he;rw[hcx] at hy;refine .inr ⟨c,x,hy,hf0,by omega,g4,by omega,fun _ b hb=>qf3 (hrun e b hb),fun _ s' ht hi' hb=>?_⟩;rcases hb with⟨_,hb⟩|⟨hb,_⟩
  ·exact Jt hy (by omega) s' ht hi' hb
  ·refine qei hi' (x:=x) ?_ ?_ (by show c≠0;omega)
   ·rw[ht,←hst]
    exact qdq _ 0 _ (by simp only[List.length_take];exact qeh ht (by omega))
   ·rw[hb,qeg ht]
    rcases qc2 s x i (bI 32) with⟨e1,_⟩|⟨e1,_⟩|⟨e1,_⟩|⟨_,e1,_⟩|⟨_,e1,_⟩|⟨_,_,_,e1⟩|⟨e1,_⟩
    ·omega
    ·omega
    ·omega
    ·exact absurd e1 (qkj _)
    ·exact absurd e1 he
    ·rw[e1,hcx]
    ·omega
 ·exact Me _ hy (qn0 (by omega) hst (.inr (by omega)))
def dgT (run:By):Option Tk:=
 if 46∈run∨47∈run then(qdb run).map fun p=>⟨5,[],0,p.1,p.2,0⟩ else(qdy run).map fun u=>⟨4,[],u,0,0,0⟩
def qet (k:Int) (run:By):Except Int Tk:=
 if k=2 then(if 32<run.length then .error 82 else .ok ⟨if wdB run=true then 1 else 2,run,0,0,0,0⟩)
 else if k=3 then(if 16<run.length then .error 82 else .ok ⟨3,run,0,0,0,0⟩)
 else match dgT run with
  |some z=>.ok z
  |none=>.error 81
theorem qp3 (s:By) (x:SS) (q:Nat) (hk:x.st=2∨x.st=3∨x.st=4):qbi s x q=match qet x.st (qbq s x.fr.toNat q) with
 |.ok z=>(0,{ x with tk:=x.tk++[{ z with p:=x.fr }] })
 |.error e=>(e,x):=by
 unfold qbi qet;rcases hk with h|h|h
 ·rw[if_neg (by omega),if_pos h]
  unfold qan qal;rw[if_pos h,Int.toNat_natCast];by_cases hl:32<(qbq s x.fr.toNat q).length
  ·rw[if_pos hl,if_pos (by omega)]
  ·rw[if_neg hl,if_neg (by omega)]
 ·rw[if_neg (by omega),if_neg (by omega),if_pos h]
  unfold qan qal;rw[if_neg (by omega),Int.toNat_natCast];by_cases hl:16<(qbq s x.fr.toNat q).length
  ·rw[if_pos hl,if_pos (by omega)]
  ·rw[if_neg hl,if_neg (by omega)]
 ·rw[if_pos h,if_neg (by omega),if_neg (by omega)]
  unfold qav dgT;generalize qbq s x.fr.toNat q=run;by_cases hp:46∈run∨47∈run
  ·rw[if_pos hp,if_pos hp]
   unfold qdn;cases qdb run with
   |none=>rfl
   |some p=>rfl
  ·rw[if_neg hp,if_neg hp]
   unfold qch;cases qdy run with
   |none=>rfl
   |some p=>rfl
def txL (acc:By):By→Option (By×Nat)
 |[]=>none
 |c::t=>
  if c=34 then(if acc.length≤200 then some (acc,1) else none)
  else if txB (bI c)=true then
   if c=92 then
    match t with
    |[]=>none
    |d::u=>if esB (bI d)=true then(txL (acc++[d]) u).map fun p=>(p.1,p.2+2) else none
   else(txL (acc++[c]) t).map fun p=>(p.1,p.2+1)
  else none
 termination_by r=>r.length
 decreasing_by all_goals (simp_wf;try omega)
def qct:By→Except Int (Tk×Nat)
 |[]=>.error 80
 |c::t=>
  if smB (bI c)=true then(qet 2 ((c::t).takeWhile fun b=>goB 2 (bI b))).map fun z=>(z,((c::t).takeWhile fun b=>goB 2 (bI b)).length)
  else if grB (bI c)=true then(qet 3 ((c::t).takeWhile fun b=>goB 3 (bI b))).map fun z=>(z,((c::t).takeWhile fun b=>goB 3 (bI b)).length)
  else if dgB (bI c)=true then(qet 4 ((c::t).takeWhile fun b=>goB 4 (bI b))).map fun z=>(z,((c::t).takeWhile fun b=>goB 4 (bI b)).length)
  else if c=34 then
   match txL [] t with
   |some (m,n)=>.ok (⟨6,m,0,0,0,0⟩,n+1)
   |none=>.error 83
  else if sgB (bI c)=true then .ok (⟨7,[c],0,0,0,0⟩,1)
  else .error 80
def qbw (rm:Bool) (i:Nat) (r:By):Except (Int×Int) (List Tk):=
 match r with
 |[]=>.ok [⟨8,[],0,0,0,i⟩]
 |c::t=>
  if rm=true then(if c=10 then qbw false (i+1) t else qbw true (i+1) t)
  else if blB (bI c)=true then qbw false (i+1) t
  else if c=35 then qbw true (i+1) t
  else match qct (c::t) with
   |.error e=>.error (e,i)
   |.ok (x,n)=>(qbw false (i+(n-1)+1) (t.drop (n-1))).map fun L=>{ x with p:=i }::L
 termination_by r.length
 decreasing_by all_goals (simp_wf;try omega)
def scF (s:By) (i:Nat) (x:SS):Except (Int×Int) (List Tk):=
 if (qat s i x (s.drop i)).1≠0 then .error ((qat s i x (s.drop i)).1,(qat s i x (s.drop i)).2.fr)
 else if (qde s (qat s i x (s.drop i)).2).1≠0 then .error ((qde s (qat s i x (s.drop i)).2).1,(qde s (qat s i x (s.drop i)).2).2.fr)
 else .ok (qde s (qat s i x (s.drop i)).2).2.tk
theorem qkk {s:By} {i j:Nat} {x y:SS} (h:qat s i x (s.drop i)=qat s j y (s.drop j)):scF s i x=scF s j y:=by
 unfold scF;rw[h]
theorem qb1 {s:By} {i:Nat} (hi:i<s.length) {x y:SS} (h:qap s x i (bI s[i])=(0,y)):scF s i x=scF s (i+1) y:=by
 refine qkk ?_;rw[List.drop_eq_getElem_cons hi,qat,h,if_pos rfl]
theorem qdv {s:By} {i:Nat} (hi:i<s.length) {x y:SS} {c:Int} (hc:c≠0) (h:qap s x i (bI s[i])=(c,y)):scF s i x=.error (c,y.fr):=by
 unfold scF;rw[List.drop_eq_getElem_cons hi,qat,h,if_neg hc,if_pos hc]
theorem qez (s:By) (x:SS):scF s s.length x=if (qde s x).1≠0 then .error ((qde s x).1,(qde s x).2.fr) else .ok (qde s x).2.tk:=by
 unfold scF;rw[List.drop_length,qat,if_neg (by show ¬((0:Int)≠0);decide)]
theorem qp4 {s:By} {i:Nat} (hi:i<s.length) {x y:SS} (h:qap s x i (bI s[i])=qap s y i (bI s[i])):scF s i x=scF s i y:=by
 refine qkk ?_;rw[List.drop_eq_getElem_cons hi,qat,qat,h]
theorem qls (x y:SS) (q r:Int) (ht:x.tk=y.tk) (hm:x.mn=y.mn):qag x q r=qag y q r:=by
 obtain⟨xt,xs,xf,xm⟩:=x;obtain⟨yt,ys,yf,ym⟩:=y;simp only at ht hm;subst ht hm;unfold qag;rfl
theorem qej (s:By) (x:SS) (i:Nat) (r:Int) (h:x.st=0):qap s x i r=qag x i r:=by
 rcases qc2 s x i r with⟨e,_⟩|⟨e,_⟩|⟨e,_⟩|⟨e,_⟩|⟨e,_⟩|⟨e,_⟩|⟨e,hy⟩
 ·omega
 ·omega
 ·omega
 ·omega
 ·omega
 ·omega
 ·exact hy
theorem run_end {s:By} {i:Nat} (hi:i≤s.length) {x:SS} (hk:x.st=2∨x.st=3∨x.st=4) (hg:∀h:i<s.length,goB x.st (bI s[i])≠true):
 scF s i x=match qet x.st (qbq s x.fr.toNat i) with
  |.ok z=>scF s i { x with st:=0,tk:=x.tk++[{ z with p:=x.fr }] }
  |.error e=>.error (e,x.fr):=by
 have hE:=qp3 s x i hk;have hne:∀e,qet x.st (qbq s x.fr.toNat i)=.error e→e≠0:=fun e he=>by
  unfold qet at he;split at he
  ·split at he
   ·rw[←Except.error.inj he];decide
   ·cases he
  ·split at he
   ·split at he
    ·rw[←Except.error.inj he];decide
    ·cases he
   ·split at he
    ·cases he
    ·rw[←Except.error.inj he];decide
 rcases Nat.lt_or_ge i s.length with h|h
 ·rcases qc2 s x i (bI s[i]) with⟨e,_⟩|⟨e,_⟩|⟨e,_⟩|⟨_,e,_⟩|⟨_,e,hy⟩|⟨_,_,e,hy⟩|⟨e,hy⟩
  ·omega
  ·omega
  ·omega
  ·exact absurd e (hg h)
  ·cases hT:qet x.st (qbq s x.fr.toNat i) with
   |ok z=>
    rw[hT] at hE;simp only at hE ⊢;refine qp4 h ?_;rw[hy,hE,qej _ _ _ _ rfl];exact qls _ _ _ _ rfl rfl
   |error c=>
    rw[hT] at hE;simp only at hE;rw[hE] at e;exact absurd e (hne c hT)
  ·cases hT:qet x.st (qbq s x.fr.toNat i) with
   |ok z=>
    rw[hT] at hE;simp only at hE;rw[hE] at e;exact absurd rfl e
   |error c=>
    rw[hT] at hE;simp only at hE ⊢;exact qdv h (hne c hT) (by rw[hy,hE])
  ·omega
 ·obtain rfl:i=s.length:=by omega
  have hq:qde s x=if (qbi s x s.length).1=0 then(0,{ (qbi s x s.length).2 with fr:=s.length,tk:=(qbi s x s.length).2.tk++[⟨8,[],0,0,0,s.length⟩] }) else qbi s x s.length:=by
   unfold qde qh4 qbi;by_cases h4:x.st=4
   ·rw[if_pos h4,if_pos h4]
   ·rw[if_neg h4,if_neg h4,if_neg (by omega),if_pos (by omega)]
  rw[qez,hq,hE];cases hT:qet x.st (qbq s x.fr.toNat s.length) with
  |ok z=>
   simp only;rw[qez];unfold qde qh4;simp
  |error c=>
   have:=hne c hT;simp only;rw[if_neg this,if_pos this]
theorem qqy {s:By} {x:SS} (hk:x.st=2∨x.st=3∨x.st=4):∀(n i:Nat),i+n≤s.length→(∀j (hj:j<s.length),i≤j→j<i+n→goB x.st (bI s[j])=true)→scF s i x=scF s (i+n) x
 |0,i,_,_=>rfl
 |n+1,i,hn,hg=>by
  have hi:i<s.length:=by omega
  have hs:qap s x i (bI s[i])=(0,x):=by
   have:=hg i hi Yi (by omega);unfold qap qby;by_cases h4:x.st=4
   ·rw[h4] at this
    rw[if_pos h4,if_pos this]
   ·rw[if_neg h4,if_neg (by omega),if_neg (by omega),if_neg (by omega),if_pos (by omega),if_pos this]
  rw[qb1 hi hs,qqy hk n (i+1) (by omega) (fun j hj h1 h2=>hg j hj (by omega) (by omega))]
  congr 1
  omega
theorem qrn (b:UInt8):rB (bI b)=b:=by
 unfold rB bI;rw[Int.toNat_natCast];exact UInt8.ofNat_toNat
theorem qn1 (b:UInt8) (n:Nat) (hn:n<256):bI b=(n:Int)↔b=UInt8.ofNat n:=by
 unfold bI;constructor
 ·intro h
  have h:b.toNat=n:=by omega
  rw[←h,UInt8.ofNat_toNat]
 ·intro h
  rw[h,UInt8.toNat_ofNat',Nat.mod_eq_of_lt hn]
theorem qkl (acc r:By) (h:200<acc.length):txL acc r=none:=by
 fun_induction txL acc r with
 |case1=>rfl
 |case2=>omega
 |case3=>rfl
 |case4=>rfl
 |case5 acc d u h3 h1 h2 ih=>rw[ih (by simp;omega)];rfl
 |case6=>rfl
 |case7 acc c t h1 h2 h3 ih=>rw[ih (by simp;omega)];rfl
 |case8=>rfl
theorem qro {s:By} {T:List Tk} {f:Int}:∀(k i:Nat) (acc:By),s.length-i≤k→i≤s.length→acc.length≤200→scF s i ⟨T,5,f,acc⟩=match txL acc (s.drop i) with
 |some (m,n)=>scF s (i+n) ⟨T++[⟨6,m,0,0,0,f⟩],0,f,[]⟩
 |none=>.error (83,f):=by
 intro k
 induction k with
 |zero=>
  intro i acc hk hi ha;obtain rfl:i=s.length:=by omega
  rw[List.drop_length,txL,qez];have:qde s ⟨T,5,f,acc⟩=(83,⟨T,5,f,acc⟩):=by
   unfold qde qh4;simp
  rw[this];rfl
 |succ k ih=>
  intro i acc hk hi ha;rcases Nat.lt_or_ge i s.length with h|h
  ·have hst:qap s ⟨T,5,f,acc⟩ i (bI s[i])=qaz ⟨T,5,f,acc⟩ (bI s[i]):=by
    unfold qap qby;simp
   have e34:bI s[i]=34↔s[i]=34:=qn1 s[i] 34 (by decide);have e92:bI s[i]=92↔s[i]=92:=qn1 s[i] 92 (by decide);rw[List.drop_eq_getElem_cons h,txL.eq_def];simp only;by_cases BZ:s[i]=34
   ·rw[if_pos BZ,if_pos ha]
    simp only;refine qb1 h ?_;rw[hst];unfold qaz;rw[if_pos (e34.2 BZ)]
   ·rw[if_neg BZ]
    by_cases EW:s[i]=92
    ·rw[if_pos (show txB (bI s[i])=true by rw[EW];decide),if_pos EW]
     have h6:scF s i ⟨T,5,f,acc⟩=scF s (i+1) ⟨T,6,f,acc⟩:=by
      refine qb1 h ?_;rw[hst];unfold qaz;rw[if_neg (fun e=>BZ (e34.1 e)),if_pos (e92.2 EW)]
     rw[h6];rcases Nat.lt_or_ge (i+1) s.length with h'|h'
     ·have JH:qap s ⟨T,6,f,acc⟩ ((i+1:Nat):Int) (bI s[i+1])=qbe ⟨T,6,f,acc⟩ (bI s[i+1]):=by
       unfold qap qby;simp
      rw[List.drop_eq_getElem_cons h'];simp only;by_cases hes:esB (bI s[i+1])=true
      ·rw[if_pos hes]
       have htx:txB (bI s[i+1])=true:=by
        unfold esB at hes;unfold txB;simp at hes ⊢;omega
       by_cases Gu:acc.length=200
       ·rw[qkl (acc++[s[i+1]]) _ (by simp;omega)]
        simp only[Option.map_none];refine qdv h' (by decide) (y:=⟨T,5,f,acc⟩) ?_;rw[JH];unfold qbe qb8;rw[if_pos hes,if_neg (by simp[Gu])]
       ·have h5:scF s (i+1) ⟨T,6,f,acc⟩=scF s (i+1+1) ⟨T,5,f,acc++[s[i+1]]⟩:=by
         refine qb1 h' ?_;rw[JH];unfold qbe qb8;rw[if_pos hes,if_pos ⟨htx,Gu⟩,qrn]
        rw[h5,ih (i+1+1) (acc++[s[i+1]]) (by omega) (by omega) (by simp;omega)];cases txL (acc++[s[i+1]]) (s.drop (i+1+1)) with
        |none=>rfl
        |some p=>
         obtain⟨m,n⟩:=p;simp only[Option.map_some]
         congr 1
         omega
      ·rw[if_neg hes]
       simp only;refine qdv h' (by decide) (y:=⟨T,6,f,acc⟩) ?_;rw[JH];unfold qbe;rw[if_neg hes]
     ·have hl:i+1=s.length:=by omega
      rw[hl,List.drop_length,qez];have:qde s ⟨T,6,f,acc⟩=(83,⟨T,6,f,acc⟩):=by
       unfold qde qh4;simp
      rw[this];rfl
    ·have JI:qap s ⟨T,5,f,acc⟩ i (bI s[i])=qb8 ⟨T,5,f,acc⟩ (bI s[i]):=by
      rw[hst];unfold qaz;rw[if_neg (fun e=>BZ (e34.1 e)),if_neg (fun e=>EW (e92.1 e))]
     by_cases htx:txB (bI s[i])=true
     ·rw[if_pos htx,if_neg EW]
      by_cases Gu:acc.length=200
      ·rw[qkl (acc++[s[i]]) _ (by simp;omega)]
       simp only[Option.map_none];refine qdv h (by decide) (y:=⟨T,5,f,acc⟩) ?_;rw[JI];unfold qb8;rw[if_neg (by simp[Gu])]
      ·have h5:scF s i ⟨T,5,f,acc⟩=scF s (i+1) ⟨T,5,f,acc++[s[i]]⟩:=by
        refine qb1 h ?_;rw[JI];unfold qb8;rw[if_pos ⟨htx,Gu⟩,qrn]
       rw[h5,ih (i+1) (acc++[s[i]]) (by omega) (by omega) (by simp;omega)];cases txL (acc++[s[i]]) (s.drop (i+1)) with
       |none=>rfl
       |some p=>
        obtain⟨m,n⟩:=p;simp only[Option.map_some]
        congr 1
        omega
     ·rw[if_neg htx]
      simp only;refine qdv h (by decide) (y:=⟨T,5,f,acc⟩) ?_;rw[JI];unfold qb8;rw[if_neg (fun hh=>htx hh.1)]
  ·obtain rfl:i=s.length:=by omega
   rw[List.drop_length,txL,qez];have:qde s ⟨T,5,f,acc⟩=(83,⟨T,5,f,acc⟩):=by
    unfold qde qh4;simp
   rw[this];rfl
theorem qjl (p:UInt8→Bool):∀r:By,(∀c∈r.takeWhile p,p c=true)∧∀h:(r.takeWhile p).length<r.length,p r[(r.takeWhile p).length]≠true
 |[]=>⟨fun c hc=>(by cases hc),fun h=>absurd h (by simp)⟩
 |a::t=>by
  obtain⟨h1,h2⟩:=qjl p t;by_cases ha:p a=true
  ·have e:(a::t).takeWhile p=a::t.takeWhile p:=by rw[List.takeWhile_cons,if_pos ha]
   constructor
   ·intro c hc
    rw[e] at hc;rcases List.mem_cons.1 hc with rfl|hc
    ·exact ha
    ·exact h1 c hc
   ·intro h
    have h':(t.takeWhile p).length<t.length:=by rw[e] at h;simpa using h
    have:=h2 h';have e2:(a::t)[((a::t).takeWhile p).length]=t[(t.takeWhile p).length]:=by
     simp only[e,List.length_cons,List.getElem_cons_succ]
    rw[e2];exact this
  ·have e:(a::t).takeWhile p=[]:=by rw[List.takeWhile_cons,if_neg ha]
   constructor
   ·intro c hc
    rw[e] at hc;cases hc
   ·intro h
    have e2:(a::t)[((a::t).takeWhile p).length]=a:=by
     simp only[e,List.length_nil,List.getElem_cons_zero]
    rw[e2];exact ha
theorem qrp (p:UInt8→Bool) (r:By):r.takeWhile p=r.take (r.takeWhile p).length:=List.prefix_iff_eq_take.1 (List.takeWhile_prefix p)
theorem qp5 (p:UInt8→Bool) (r:By):(r.takeWhile p).length≤r.length:=(List.takeWhile_prefix p).length_le
theorem qn2 (p:UInt8→Bool) (s:By) (i:Nat):qbq s i (i+((s.drop i).takeWhile p).length)=(s.drop i).takeWhile p:=by
 unfold qbq;rw[List.drop_take,Nat.add_sub_cancel_left,←qrp]
theorem qkm {s:By} {i j:Nat} (h:i+j<s.length):(s.drop i)[j]'(by simp;omega)=s[i+j]:=by rw[List.getElem_drop]
theorem qrq {s:By} {i:Nat} (hi:i<s.length) {k:Int} (hk:k=2∨k=3∨k=4) (hg:goB k (bI s[i])=true) (T:List Tk):
 scF s (i+1) ⟨T,k,i,[]⟩=match qet k ((s.drop i).takeWhile fun b=>goB k (bI b)) with
  |.ok z=>scF s (i+((s.drop i).takeWhile fun b=>goB k (bI b)).length) ⟨T++[{ z with p:=i }],0,i,[]⟩
  |.error e=>.error (e,i):=by
 obtain⟨h1,h2⟩:=qjl (fun b=>goB k (bI b)) (s.drop i);have hc:=qn2 (fun b=>goB k (bI b)) s i;have hle:=qp5 (fun b=>goB k (bI b)) (s.drop i);have hpos:1≤((s.drop i).takeWhile fun b=>goB k (bI b)).length:=by
  rw[List.drop_eq_getElem_cons hi,List.takeWhile_cons,if_pos hg];simp
 generalize hr:((s.drop i).takeWhile fun b=>goB k (bI b))=run at *;rw[List.length_drop] at hle;have hon:=qqy (s:=s) (x:=⟨T,k,i,[]⟩) hk (run.length-1) (i+1) (by omega) (fun j hj g1 g2=>by
  show goB k (bI s[j])=true;refine h1 s[j] ?_;rw[←hc];unfold qbq;refine List.mem_iff_getElem.2 ⟨j-i,by simp;omega,?_⟩;rw[List.getElem_drop,List.getElem_take]
  congr 1
  omega)
 rw[hon,show i+1+(run.length-1)=i+run.length by omega];have hend:=run_end (s:=s) (i:=i+run.length) (x:=⟨T,k,i,[]⟩) (by omega) hk (fun h=>by
  have:=h2 (by rw[List.length_drop];omega);rw[qkm h] at this;exact this)
 rw[hend];show(match qet k (qbq s (i:Int).toNat (i+run.length)) with|.ok z=>_|.error e=>_)=_;rw[Int.toNat_natCast,hc]
theorem qrr (acc r:By):∀m n,txL acc r=some (m,n)→1≤n∧n≤r.length:=by
 fun_induction txL acc r with
 |case1=>intro m n h;cases h
 |case2 acc t ha=>
  intro m n h;obtain⟨rfl,rfl⟩:=Prod.mk.inj (Option.some.inj h);simp
 |case3=>intro m n h;cases h
 |case4=>intro m n h;cases h
 |case5 acc d u h3 h1 h2 ih=>
  intro m n h;cases hx:txL (acc++[d]) u with
  |none=>rw[hx] at h;cases h
  |some p=>
   rw[hx] at h;obtain⟨rfl,rfl⟩:=Prod.mk.inj (Option.some.inj h);have:=ih p.1 p.2 hx;simp;omega
 |case6=>intro m n h;cases h
 |case7 acc c t h1 h2 h3 ih=>
  intro m n h;cases hx:txL (acc++[c]) t with
  |none=>rw[hx] at h;cases h
  |some p=>
   rw[hx] at h;obtain⟨rfl,rfl⟩:=Prod.mk.inj (Option.some.inj h);have:=ih p.1 p.2 hx;simp;omega
 |case8=>intro m n h;cases h
theorem map_ok {α β:Type} {f:α→β} {r:Except Int α} {y:β} (h:r.map f=.ok y):∃z,r=.ok z∧f z=y:=by
 cases r with
 |error e=>cases h
 |ok z=>exact⟨z,rfl,Except.ok.inj h⟩
theorem qkn {r:Int} (h:grB r=true):goB 3 r=true:=by
 unfold goB;rw[if_neg (by decide),if_pos rfl];exact h
theorem qko {r:Int} (h:dgB r=true):goB 4 r=true:=by
 unfold goB;rw[if_neg (by decide),if_neg (by decide),h];simp
theorem qik (c:UInt8) (t:By):
 (∃k,(k=2∨k=3∨k=4)∧goB k (bI c)=true∧qct (c::t)=(qet k ((c::t).takeWhile fun b=>goB k (bI b))).map (fun z=>(z,((c::t).takeWhile fun b=>goB k (bI b)).length))∧(∀x:SS,∀q:Int,blB (bI c)≠true→c≠35→qag x q (bI c)=(0,{ x with fr:=q,st:=k }))∧(k=2↔smB (bI c)=true))∨
 (c=34∧qct (c::t)=(match txL [] t with|some (m,n)=>.ok (⟨6,m,0,0,0,0⟩,n+1)|none=>.error 83)∧(∀x:SS,∀q:Int,qag x q (bI c)=(0,{ x with fr:=q,st:=5 })))∨
 (sgB (bI c)=true∧qct (c::t)=.ok (⟨7,[c],0,0,0,0⟩,1)∧(∀x:SS,∀q:Int,blB (bI c)≠true→c≠35→qag x q (bI c)=(0,{ x with fr:=q,st:=0,tk:=x.tk++[⟨7,[c],0,0,0,q⟩] })))∨
 (qct (c::t)=.error 80∧(∀x:SS,∀q:Int,blB (bI c)≠true→c≠35→qag x q (bI c)=(80,{ x with fr:=q,st:=0 }))):=by
 have e35:bI c=35↔c=35:=qn1 c 35 (by decide);have e34:bI c=34↔c=34:=qn1 c 34 (by decide);by_cases h2:smB (bI c)=true
 ·refine .inl ⟨2,.inl rfl,qo1 h2,by rw[qct,if_pos h2],fun x q hb h5=>?_,fun _=>h2,fun _=>rfl⟩
  unfold qag;rw[if_neg hb,if_neg (fun e=>h5 (e35.1 e)),if_pos h2]
 ·by_cases h3:grB (bI c)=true
  ·refine .inl ⟨3,.inr (.inl rfl),qkn h3,by rw[qct,if_neg h2,if_pos h3],fun x q hb h5=>?_,fun e=>absurd e (by decide),fun e=>absurd e h2⟩
   unfold qag;rw[if_neg hb,if_neg (fun e=>h5 (e35.1 e)),if_neg h2,if_pos h3]
  ·by_cases h4:dgB (bI c)=true
   ·refine .inl ⟨4,.inr (.inr rfl),qko h4,by rw[qct,if_neg h2,if_neg h3,if_pos h4],fun x q hb h5=>?_,fun e=>absurd e (by decide),fun e=>absurd e h2⟩
    unfold qag;rw[if_neg hb,if_neg (fun e=>h5 (e35.1 e)),if_neg h2,if_neg h3,if_pos h4]
   ·by_cases BZ:c=34
    ·refine .inr (.inl ⟨BZ,by rw[qct,if_neg h2,if_neg h3,if_neg h4,if_pos BZ];first|done|rfl,fun x q=>?_⟩)
     subst BZ;rfl
    ·by_cases h7:sgB (bI c)=true
     ·refine .inr (.inr (.inl ⟨h7,by rw[qct,if_neg h2,if_neg h3,if_neg h4,if_neg BZ,if_pos h7],fun x q hb h5=>?_⟩))
      unfold qag;rw[if_neg hb,if_neg (fun e=>h5 (e35.1 e)),if_neg h2,if_neg h3,if_neg h4,if_neg (fun e=>BZ (e34.1 e)),if_pos h7,qrn]
     ·refine .inr (.inr (.inr ⟨by rw[qct,if_neg h2,if_neg h3,if_neg h4,if_neg BZ,if_neg h7],fun x q hb h5=>?_⟩))
      unfold qag;rw[if_neg hb,if_neg (fun e=>h5 (e35.1 e)),if_neg h2,if_neg h3,if_neg h4,if_neg (fun e=>BZ (e34.1 e)),if_neg h7]
theorem qhn {r:By} {x:Tk} {n:Nat} (h:qct r=.ok (x,n)):1≤n∧n≤r.length:=by
 cases r with
 |nil=>cases h
 |cons c t=>
  rcases qik c t with⟨k,hk,hg,h1,_⟩|⟨hc,h1,_⟩|⟨_,h1,_⟩|⟨h1,_⟩
  ·rw[h1] at h
   obtain⟨z,_,hz⟩:=map_ok h;obtain⟨_,rfl⟩:=Prod.mk.inj hz;refine⟨?_,qp5 _ _⟩;rw[List.takeWhile_cons,if_pos hg];simp
  ·rw[h1] at h
   cases hx:txL [] t with
   |none=>rw[hx] at h;cases h
   |some p=>
    obtain⟨m,l⟩:=p;rw[hx] at h;obtain⟨_,rfl⟩:=Prod.mk.inj (Except.ok.inj h);have:=qrr _ _ _ _ hx;simp;omega
  ·rw[h1] at h
   obtain⟨_,rfl⟩:=Prod.mk.inj (Except.ok.inj h);simp
  ·rw[h1] at h
   cases h
theorem qsu {s:By} {i:Nat} (hi:i<s.length) (hb:blB (bI s[i])≠true) (h5:s[i]≠35) (T:List Tk) (f:Int):
 scF s i ⟨T,0,f,[]⟩=match qct (s.drop i) with
  |.ok (x,n)=>scF s (i+n) ⟨T++[{ x with p:=i }],0,i,[]⟩
  |.error e=>.error (e,i):=by
 have hz:∀r,qap s ⟨T,0,f,[]⟩ i r=qag ⟨T,0,f,[]⟩ i r:=fun r=>qej _ _ _ _ rfl
 rw[List.drop_eq_getElem_cons hi];rcases qik s[i] (s.drop (i+1)) with⟨k,hk,hg,h1,h2,_⟩|⟨_,h1,h2⟩|⟨_,h1,h2⟩|⟨h1,h2⟩
 ·rw[h1,qb1 hi ((hz _).trans (h2 _ _ hb h5))]
  show scF s (i+1) ⟨T,k,i,[]⟩=_;rw[qrq hi hk hg T,List.drop_eq_getElem_cons hi];cases qet k ((s[i]::s.drop (i+1)).takeWhile fun b=>goB k (bI b)) with
  |ok z=>rfl
  |error e=>rfl
 ·rw[h1,qb1 hi ((hz _).trans (h2 _ _))]
  show scF s (i+1) ⟨T,5,i,[]⟩=_;rw[qro (s.length) (i+1) [] (by omega) (by omega) (by simp)];cases txL [] (s.drop (i+1)) with
  |none=>rfl
  |some p=>
   obtain⟨m,n⟩:=p;simp only
   congr 1
   omega
 ·rw[h1,qb1 hi ((hz _).trans (h2 _ _ hb h5))]
 ·rw[h1]
  exact qdv hi (by decide) ((hz _).trans (h2 _ _ hb h5))
theorem qp6 {s:By} {i:Nat} (hi:i<s.length) (hb:blB (bI s[i])=true) (T:List Tk) (f:Int):scF s i ⟨T,0,f,[]⟩=scF s (i+1) ⟨T,0,i,[]⟩:=by
 refine qb1 hi ?_;rw[qej _ _ _ _ rfl];unfold qag;rw[if_pos hb]
theorem qrs {s:By} {i:Nat} (hi:i<s.length) (h5:s[i]=35) (T:List Tk) (f:Int):scF s i ⟨T,0,f,[]⟩=scF s (i+1) ⟨T,1,i,[]⟩:=by
 refine qb1 hi ?_;rw[qej _ _ _ _ rfl,h5];rfl
theorem qsv {s:By} {i:Nat} (hi:i<s.length) (T:List Tk) (f:Int):scF s i ⟨T,1,f,[]⟩=scF s (i+1) ⟨T,if s[i]=10 then 0 else 1,f,[]⟩:=by
 refine qb1 hi ?_;have e10:bI s[i]=10↔s[i]=10:=qn1 s[i] 10 (by decide);unfold qap qby;rw[if_neg (by show ¬(1:Int)=4;decide),if_pos rfl];by_cases h:s[i]=10
 ·rw[if_pos (e10.2 h),if_pos h]
 ·rw[if_neg (fun e=>h (e10.1 e)),if_neg h]
theorem qqz (s:By) (T:List Tk) (rm:Bool) (f:Int):scF s s.length ⟨T,if rm=true then 1 else 0,f,[]⟩=.ok (T++[⟨8,[],0,0,0,s.length⟩]):=by
 rw[qez];cases rm
 ·rfl
 ·rfl
def qkp (T:List Tk) (r:Except (Int×Int) (List Tk)):Except (Int×Int) (List Tk):=r.map (T++ ·)
theorem qil (T:List Tk) (x:Tk) (r:Except (Int×Int) (List Tk)):qkp T (r.map fun L=>x::L)=qkp (T++[x]) r:=by
 unfold qkp;cases r with
 |error e=>rfl
 |ok L=>
  show Except.ok (T++x::L)=.ok ((T++[x])++L);rw[List.append_assoc];rfl
theorem qp7 (s:By):∀(k i:Nat) (rm:Bool) (T:List Tk) (f:Int),s.length-i≤k→i≤s.length→scF s i ⟨T,if rm=true then 1 else 0,f,[]⟩=qkp T (qbw rm i (s.drop i)):=by
 intro k
 induction k with
 |zero=>
  intro i rm T f hk hi;obtain rfl:i=s.length:=by omega
  rw[qqz,List.drop_length,qbw];rfl
 |succ k ih=>
  intro i rm T f hk hi;rcases Nat.lt_or_ge i s.length with h|h
  ·rw[List.drop_eq_getElem_cons h,qbw.eq_def]
   simp only;cases rm with
   |true=>
    show scF s i ⟨T,1,f,[]⟩=_;rw[qsv h,if_pos rfl];by_cases h10:s[i]=10
    ·rw[if_pos h10,if_pos h10]
     exact ih (i+1) false T f (by omega) (by omega)
    ·rw[if_neg h10,if_neg h10]
     exact ih (i+1) true T f (by omega) (by omega)
   |false=>
    show scF s i ⟨T,0,f,[]⟩=_;rw[if_neg (by decide)];by_cases hb:blB (bI s[i])=true
    ·rw[if_pos hb,qp6 h hb]
     exact ih (i+1) false T i (by omega) (by omega)
    ·rw[if_neg hb]
     by_cases h5:s[i]=35
     ·rw[if_pos h5,qrs h h5]
      exact ih (i+1) true T i (by omega) (by omega)
     ·rw[if_neg h5,qsu h hb h5,List.drop_eq_getElem_cons h]
      cases hO:qct (s[i]::s.drop (i+1)) with
      |error e=>rfl
      |ok p=>
       obtain⟨x,n⟩:=p;obtain⟨n1,n2⟩:=qhn hO;simp only[List.length_cons,List.length_drop] at n2;simp only;have hd:(s.drop (i+1)).drop (n-1)=s.drop (i+n):=by
        rw[List.drop_drop]
        congr 1
        omega
       rw[hd,show i+(n-1)+1=i+n by omega,qil];exact ih (i+n) false _ i (by omega) (by omega)
  ·obtain rfl:i=s.length:=by omega
   rw[qqz,List.drop_length,qbw];rfl
theorem qf4 {s:By} (hs:s.length≤8000):qbb s=qbw false 0 s:=by
 have h:=qp7 s s.length 0 false [] 0 (by omega) (by omega);rw[List.drop_zero] at h;have e:qbb s=scF s 0 x0:=by
  unfold qbb scF;rw[if_neg (by omega),List.drop_zero]
 rw[e];refine Eq.trans ?_ (h.trans ?_)
 ·rfl
 ·unfold qkp
  cases qbw false 0 s with
  |error e=>rfl
  |ok L=>rfl
def GdK (t:Tk):Prop:=(t.k=1→2≤t.t.length)∧(t.k=7→t.t.length=1)
structure GdT (Ts:List Tk):Prop where
 pos:0<Ts.length
 few:Ts.length≤8001
 endk:(tok Ts (Ts.length-1)).k=8
 word:∀t∈Ts,GdK t
theorem qn3:∀r∈qbt,2≤r.length:=by decide
theorem qn4 {k:Int} {run:By} {x:Tk} (h:qet k run=.ok x):GdK x:=by
 unfold qet at h;split at h
 ·split at h
  ·cases h
  ·cases h
   refine⟨fun hk=>?_,fun hk=>?_⟩
   ·by_cases hw:wdB run=true
    ·exact qn3 run (by simpa [wdB] using hw)
    ·simp[hw] at hk
   ·simp at hk
    split at hk<;>cases hk
 ·split at h
  ·split at h
   ·cases h
   ·cases h
    exact⟨fun hk=>(by cases hk),fun hk=>(by cases hk)⟩
  ·unfold dgT at h
   split at h
   ·rename_i z hz
    cases h;split at hz
    ·cases hp:qdb run with
     |none=>rw[hp] at hz;cases hz
     |some p=>rw[hp] at hz;cases hz;exact⟨fun hk=>(by cases hk),fun hk=>(by cases hk)⟩
    ·cases hp:qdy run with
     |none=>rw[hp] at hz;cases hz
     |some p=>rw[hp] at hz;cases hz;exact⟨fun hk=>(by cases hk),fun hk=>(by cases hk)⟩
   ·cases h
theorem qp8 {r:By} {x:Tk} {n:Nat} (h:qct r=.ok (x,n)):GdK x:=by
 cases r with
 |nil=>cases h
 |cons c t=>
  rw[qct] at h;have key:∀(k:Int) (run:By),(qet k run).map (fun z=>(z,run.length))=.ok (x,n)→GdK x:=fun k run h=>by
   obtain⟨z,h1,h2⟩:=map_ok h;cases h2;exact qn4 h1
  split at h
  ·exact key _ _ h
  ·split at h
   ·exact key _ _ h
   ·split at h
    ·exact key _ _ h
    ·split at h
     ·split at h
      ·cases h;exact⟨fun hk=>(by cases hk),fun hk=>(by cases hk)⟩
      ·cases h
     ·split at h
      ·cases h;exact⟨fun hk=>(by cases hk),fun _=>rfl⟩
      ·cases h
theorem qrt {α β ε:Type} {f:α→β} {r:Except ε α} {y:β} (h:r.map f=.ok y):∃z,r=.ok z∧f z=y:=by
 cases r with
 |error e=>cases h
 |ok z=>cases h;exact⟨z,rfl,rfl⟩
theorem qn5:∀(n:Nat) (rm:Bool) (i:Nat) (r:By) (L:List Tk),r.length≤n→qbw rm i r=.ok L→0<L.length∧L.length≤r.length+1∧(∃M z,L=M++[z]∧z.k=8)∧∀t∈L,GdK t:=by
 intro n
 induction n with
 |zero=>
  intro rm i r L hr h;obtain rfl:=List.length_eq_zero_iff.1 (Nat.le_zero.1 hr);unfold qbw at h;cases h;exact⟨by simp,by simp,⟨[],_,rfl,rfl⟩,fun t ht=>by rw[List.mem_singleton.1 ht];exact⟨fun hk=>(by cases hk),fun hk=>(by cases hk)⟩⟩
 |succ n ih=>
  intro rm i r L hr h;cases r with
  |nil=>
   unfold qbw at h;cases h;exact⟨by simp,by simp,⟨[],_,rfl,rfl⟩,fun t ht=>by rw[List.mem_singleton.1 ht];exact⟨fun hk=>(by cases hk),fun hk=>(by cases hk)⟩⟩
  |cons c t=>
   have hl:t.length≤n:=by simpa using hr
   have go:∀b j,qbw b j t=.ok L→0<L.length∧L.length≤(c::t).length+1∧(∃M z,L=M++[z]∧z.k=8)∧∀t∈L,GdK t:=fun b j h=>by
    obtain⟨h1,h2,h3,h4⟩:=ih b j t L hl h;exact⟨h1,by rw[List.length_cons];omega,h3,h4⟩
   unfold qbw at h;split at h
   ·split at h
    ·exact go _ _ h
    ·exact go _ _ h
   ·split at h
    ·exact go _ _ h
    ·split at h
     ·exact go _ _ h
     ·split at h
      ·cases h
      ·rename_i x m hx
       obtain⟨M,h1,h2⟩:=qrt h;have hd:(t.drop (m-1)).length≤n:=by rw[List.length_drop];omega
       obtain⟨g1,g2,⟨M',z,g3,g3'⟩,g4⟩:=ih _ _ _ M hd h1;subst h2;refine⟨by simp,?_,⟨{ x with p:=i }::M',z,by rw[g3];rfl,g3'⟩,fun y hy=>?_⟩
       ·rw[List.length_drop] at g2
        rw[List.length_cons,List.length_cons];omega
       ·rcases List.mem_cons.1 hy with e|hy
        ·rw[e]
         exact(show GdK x from qp8 hx)
        ·exact g4 y hy
theorem qf5 {s:By} {L:List Tk} (h:qbb s=.ok L):GdT L:=by
 by_cases hs:s.length≤8000
 ·rw[qf4 hs] at h
  obtain⟨h1,h2,⟨M,z,h3,h3'⟩,h4⟩:=qn5 s.length false 0 s L Yi h;refine⟨h1,by omega,?_,h4⟩;rw[h3];unfold tok;simp[h3']
 ·unfold qbb at h
  rw[if_pos (by omega)] at h;cases h
def qdc (s:By):Except (Int×Int) (List IT):=match qbb s with
 |.error x=>.error x
 |.ok Ts=>match qfp Ts with
  |.ok L _=>.ok L
  |.bad e p=>.error (e,p)
  |.out=>.error (0,0)
theorem qkq (s:By) (w:World) (hev:qfx w.heap.size w):
 Calls Tryz.prog 16 #[.string ⟨s.toArray⟩] w fun e w'=>qji s w.heap.size e w'∧Below w.heap.size w w':=by
 by_cases hs:s.length≤8000
 ·exact qrm s w hs hev
 ·have hsz:=qa5 s
  have hl':(8000:Int)<(s.length:Int):=by omega
  have Dq:Hid (qbb s=.error (84,8000)):=by unfold Hid qbb;rw[if_pos (by omega)]
  clear hev hs;go_enter Tryz.func16,Tryz.ntmps16;go_wp2;refine Yg (by simp[results,Tryz.results16,go_sem];rfl) rfl ?_;refine⟨?_,Below.refl _ _⟩;unfold qji;rw[Dq.out]
theorem qn6 (s:By):∀(k i:Nat),i+k=s.length→∀x,InF s i x→(∃y,qat s 0 x0 s=(0,y)∧InF s s.length y)∨∃j c y,j<s.length∧qat s 0 x0 s=(c,y)∧Fl s j c y
 |0,i,hk,x,h=>by
  obtain rfl:i=s.length:=by omega
  refine .inl ⟨x,?_,h⟩;have:=h.st
  rwa [List.take_length] at this
 |k+1,i,hk,x,h=>by
  have hi:i<s.length:=by omega
  rcases qp2 hi h with⟨y,hy,hI⟩|⟨c,y,hy,hF⟩
  ·exact qn6 s k (i+1) (by omega) y hI
  ·exact .inr ⟨i,c,y,hi,qei hi h.st hy hF.c0.1,hF⟩
theorem fall (s:By):(∃y,qat s 0 x0 s=(0,y)∧InF s s.length y)∨∃j c y,j<s.length∧qat s 0 x0 s=(c,y)∧Fl s j c y:=qn6 s s.length 0 (by omega) x0 (InF.start s)
theorem qsw {s:By} (hl:s.length≤8000) {c n:Int} (h:qbb s=.error (c,n)):∃j y,y.fr=n∧Fl s j c y∧n<s.length∧j≤s.length:=by
 rcases fall s with⟨y,hy,hI⟩|⟨j,c',y,hj,hy,hF⟩
 ·rw[qc1 hl hy,if_neg (by show ¬((0:Int)≠0);decide)] at h
  obtain⟨hst,hf0,hbig,hrun⟩:=hI;rcases qij s y with⟨h1,h2⟩|⟨_,_,h2⟩|⟨h1,h2,h3⟩|⟨_,h2⟩
  ·obtain⟨g1,g2⟩:=hbig (by omega) (by omega)
   simp only[h2] at h;rw[if_pos (by decide)] at h;obtain⟨rfl,rfl⟩:=Prod.mk.inj (Except.error.inj h);exact⟨s.length,y,rfl,⟨hf0,by omega,g2,by decide,fun h=>absurd rfl h,fun h=>absurd rfl h⟩,g1,Nat.le_refl _⟩
  ·rw[if_neg (by simp only[h2];decide)] at h
   cases h
  ·obtain⟨g1,g2⟩:=hbig (by omega) (by omega)
   obtain⟨c',hc,hcx⟩:=qf2 s y s.length h2;rw[h3,hcx] at h;simp only at h;rw[if_pos (by omega)] at h;obtain⟨rfl,rfl⟩:=Prod.mk.inj (Except.error.inj h);refine⟨s.length,y,rfl,⟨hf0,by omega,g2,by omega,fun _ b hb=>qf3 (hrun h1 b hb),fun _ s' ht hi' hb=>?_⟩,g1,Nat.le_refl _⟩;rcases hb with⟨hb,_⟩|⟨hb,_⟩
   ·omega
   ·refine qei hi' (x:=y) ?_ ?_ (by show c'≠0;omega)
    ·rw[ht,←hst]
     exact qdq _ 0 _ (by simp only[List.length_take];exact qeh ht (by omega))
    ·rw[hb,qeg ht]
     rcases qc2 s y s.length (bI 32) with⟨e1,_⟩|⟨e1,_⟩|⟨e1,_⟩|⟨_,e1,_⟩|⟨_,e1,_⟩|⟨_,_,_,e1⟩|⟨e1,_⟩
     ·omega
     ·omega
     ·omega
     ·exact absurd e1 (qkj _)
     ·exact absurd e1 h2
     ·rw[e1,hcx]
     ·omega
  ·rw[if_neg (by simp only[h2];decide)] at h
   cases h
 ·have hc0:=hF.c0.1
  rw[qc1 hl hy,if_pos hc0] at h;simp only at h;obtain⟨rfl,rfl⟩:=Prod.mk.inj (Except.error.inj h);exact⟨j,y,rfl,hF,by have:=hF.f1;omega,by omega⟩
theorem qlt {s:By} (hl:s.length≤8000) {c n:Int} (h:qbb s=.error (c,n)):(c≠0∧c≠84)∧0≤n∧n<s.length∧∃L,qbb (s.take n.toNat)=.ok L:=by
 obtain⟨j,y,rfl,hF,hn,hj⟩:=qsw hl h;refine⟨hF.c0,hF.f0,hn,?_⟩;obtain⟨x,h1,h2⟩:=hF.good;have hlt:(s.take y.fr.toNat).length≤8000:=by simp;omega
 have hf:qat (s.take y.fr.toNat) 0 x0 (s.take y.fr.toNat)=(0,x):=by
  rw[←h1];refine qdq _ 0 _ ?_;rw[Nat.zero_add,List.take_length,List.length_take,Nat.min_eq_left (by omega)]
 rw[qc1 hlt hf,if_neg (by show ¬((0:Int)≠0);decide),if_neg (by simp only[h2];decide)];exact⟨_,rfl⟩
end Go.Proofs.YtlmhofjiobmodaaGreatDoor

