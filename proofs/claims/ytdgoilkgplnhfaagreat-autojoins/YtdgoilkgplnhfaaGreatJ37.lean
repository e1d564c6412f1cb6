/-
  The document's Join in pure words: pairs of labels by codes, their places, what the automaton of pairs tells; and what both Joins tell of two automata. Of no program: the conditions are named.
-/
import Derived.Test.YtdgoilkgplnhfaaGreatJ35
import Derived.Test.YtdgoilkgplnhfaaGreatJ18
import Derived.Test.YtdgoilkgplnhfaaGreatJ36
import Derived.Test.YtdgoilkgplnhfaaGreatJ32
import Derived.Test.YtdgoilkgplnhfaaGreatJ05
import Derived.Test.YtdgoilkgplnhfaaGreatJ23
import Derived.Laws.MakeOwn
import Derived.Test.YtdgoilkgplnhfaaGreatJ19
namespace Go.Proofs.YtdgoilkgplnhfaaGreat
open Go.RowKit Go.Lib Go.Maps
section
variable {k:Nat→Nat} {num fst:List Nat} {A B:DF}
theorem qmj (h:qbf k 256 (gN num) (gN fst) fst.length):fst.length≤256:=
 qax 256 fst.length (gN fst) h.fstlt (fun i h1 j h2 e=>by rw[←h.numfst i h1,←h.numfst j h2,e])
theorem qd7 (h:qbf k 256 (gN num) (gN fst) fst.length) (hl:num.length=256) {b:Nat} (hb:b<256):((qav num).getD b 0).toNat=gN num b∧gN num b<fst.length:=by
 have hf:=qmj h;refine⟨qmi (fun x hx=>?_) (by omega),h.numlt b hb⟩;obtain⟨i,hi,rfl⟩:=List.getElem_of_mem hx;have:=h.numlt i (by omega);rw[qah hi] at this;omega
theorem qj7 (h:qbf k 256 (gN num) (gN fst) fst.length) (hl:num.length=256) (hk:∀b c,b<256→c<256→k b=k c→A.bc b=A.bc c∧B.bc b=B.bc c):∀(t:List Nat) (p:Nat×Nat),Txt t→t.foldl (fun x b=>joC A B fst x ((qav num).getD b 0).toNat) p=(A.run p.1 t,B.run p.2 t)
 |[],_,_=>rfl
 |b::t,p,ht=>by
  have hb:=ht.tail.1;obtain⟨e1,e2⟩:=hk _ _ (h.fstlt _ (h.numlt b hb)) hb (h.lk b hb);have e:joC A B fst p (gN num b)=(A.step p.1 b,B.step p.2 b):=by
   unfold joC DF.step;rw[e1,e2]
  rw[List.foldl_cons,(qd7 h hl hb).1,e,qj7 h hl hk t _ ht.tail.2];rfl
theorem qht (h:qbf k 256 (gN num) (gN fst) fst.length):∀(u:List Nat) (p:Nat×Nat),(∀c∈u,c<fst.length)→u.foldl (joC A B fst) p=(A.run p.1 (u.map (gN fst)),B.run p.2 (u.map (gN fst)))∧Txt (u.map (gN fst))
 |[],_,_=>⟨rfl,Txt.nil⟩
 |c::u,p,hu=>by
  obtain⟨h1,h2⟩:=qht h u (joC A B fst p c) (fun x hx=>hu x (List.mem_cons_of_mem _ hx));refine⟨?_,Txt.cons (h.fstlt c (hu c List.mem_cons_self)) h2⟩;rw[List.foldl_cons,List.map_cons,h1];rfl
end
section
variable {bsA bsB:By} {NA OA NB OB:List Nat} {k:Nat→Nat} {num fst:List Nat} {St:List (Nat×Nat)} {NX OU:List Nat} {P:List Spn}
theorem qlw (h:qbf k 256 (gN num) (gN fst) fst.length) (hE:ExD (0,0) (joC (dfA bsA NA OA) (dfA bsB NB OB) fst) fst.length St NX) (hr:RoS (lpL OA OB St) P):∀x∈P,∃t,Txt t∧x=((dfA bsA NA OA).lab 0 t,(dfA bsB NB OB).lab 0 t):=fun x hx=>by
 obtain⟨a,ha,e⟩:=List.getElem_of_mem ((hr.mem x).1 hx);rw[qb3] at ha;rw[←qch (by rw[qb3];exact ha),qd6 (z:=(0,0)) ha] at e;obtain⟨u,h1,h2⟩:=hE.rch a ha;obtain⟨e1,e2⟩:=qht (A:=dfA bsA NA OA) (B:=dfA bsB NB OB) h u (0,0) h1;rw[h2] at e1;refine⟨u.map (gN fst),e2,?_⟩;rw[←e,e1];rfl
theorem qow (h:qbf k 256 (gN num) (gN fst) fst.length) (hl:num.length=256) (hk:∀b c,b<256→c<256→k b=k c→(dfA bsA NA OA).bc b=(dfA bsA NA OA).bc c∧(dfA bsB NB OB).bc b=(dfA bsB NB OB).bc c) (hE:ExD (0,0) (joC (dfA bsA NA OA) (dfA bsB NB OB) fst) fst.length St NX) (ho:Plc P (lpL OA OB St) OU St.length):∀t,Txt t→∃i:Nat,(dfA (qav num) NX OU).lab 0 t=(i:Int)∧i<P.length∧gQ P i=((dfA bsA NA OA).lab 0 t,(dfA bsB NB OB).lab 0 t):=fun t ht=>by
 have h0:=(h.zero (by decide)).2;obtain⟨h1,h2⟩:=hE.run (bs:=qav num) (OU:=OU) h0 ho.1 (fun b hb=>by rw[(qd7 h hl hb).1];exact(qd7 h hl hb).2) hE.s0.1 ht;rw[hE.s0.2,qj7 h hl hk t _ ht] at h2;obtain⟨h3,h4⟩:=ho.2 _ h1;refine⟨_,rfl,h3,?_⟩;rw[h4,qd6 (z:=(0,0)) h1,h2];rfl
theorem qox (h:qbf k 256 (gN num) (gN fst) fst.length) (hl:num.length=256) (hE:ExD (0,0) (joC (dfA bsA NA OA) (dfA bsB NB OB) fst) fst.length St NX) (hS:St.length≤65536) (ho:OU.length=St.length) (hlb:∀x∈OU,x≤65535):qbv (qav num) NX OU∧qcr (qav num) (zN NX) (zN OU):=by
 have h0:=(h.zero (by decide)).2;have hM:qbv (qav num) NX OU:=hE.may h0 (qmj h) ho hS (by unfold qav;rw[List.length_map,hl]) (fun b hb=>by rw[(qd7 h hl hb).1];exact(qd7 h hl hb).2) hlb;refine⟨hM,?_⟩;have l1:(zN NX).length=NX.length:=by unfold zN;rw[List.length_map]
 have l2:(zN OU).length=OU.length:=by unfold zN;rw[List.length_map]
 have hS0:=hE.s0.1;have hmx:mxL (ntL (qav num))+1=fst.length:=by
  have hlt:∀x∈ntL (qav num),x<fst.length:=fun x hx=>by
   obtain⟨y,hy,rfl⟩:=List.mem_map.1 hx;obtain⟨i,hi,rfl⟩:=List.mem_iff_getElem.1 hy;have h256:i<256:=by rw[←hM.bl];exact hi
   have:=qd7 h hl h256;rw[List.getD_eq_getElem?_getD,List.getElem?_eq_getElem hi] at this;have e:((some (qav num)[i]).getD 0).toNat=(qav num)[i].toNat:=rfl;omega
  have h1:mxL (ntL (qav num))<fst.length:=by
   have key:∀(L:List Nat) (a:Nat),a<fst.length→(∀x∈L,x<fst.length)→L.foldl max a<fst.length:=by
    intro L
    induction L with
    |nil=>intro a ha _;exact ha
    |cons y L ih=>
     intro a ha hx;rw[List.foldl_cons];have:=hx y List.mem_cons_self;exact ih _ (by omega) (fun z hz=>hx z (List.mem_cons_of_mem _ hz))
   exact key _ 0 h0 hlt
  have hq:fst.length-1<fst.length:=by omega
  have hb:=h.fstlt _ hq;have e1:=(qd7 h hl hb).1;rw[h.numfst _ hq] at e1;have hbl:gN fst (fst.length-1)<(qav num).length:=by rw[hM.bl];exact hb
  rw[List.getD_eq_getElem?_getD,List.getElem?_eq_getElem hbl] at e1;have h2:((some (qav num)[gN fst (fst.length-1)]).getD 0).toNat≤mxL (ntL (qav num)):=qjz (ntL (qav num)) _ (List.mem_map.2 ⟨_,List.getElem_mem hbl,rfl⟩);omega
 refine⟨hM.bl,by rw[l2];exact hM.n0,by rw[l2];exact hM.n1,by rw[l1,l2,hmx,hE.len,ho],List.any_eq_false.2 (fun z hz=>?_),List.any_eq_false.2 (fun z hz=>?_)⟩
 ·obtain⟨x,hx,rfl⟩:=List.mem_map.1 hz
  have:=hM.nl x hx;unfold qdg;rw[l2];simp;omega
 ·obtain⟨x,hx,rfl⟩:=List.mem_map.1 hz
  have:=hM.lb x hx;have hl:Lab ((x:Nat):Int):=⟨by omega,by omega⟩;unfold nlB;simp[hl]
theorem qj8 (hE:ExD (0,0) (joC (dfA bsA NA OA) (dfA bsB NB OB) fst) fst.length St NX) (hst:∀p∈St,p.1<OA.length∧p.2<OB.length) (hA:OA.length≤256) (hB:OB.length≤256):St.length≤65536:=
 qax 65536 St.length (fun a=>cdP (gS (0,0) St a)) (fun a ha=>by
  rw[qb2 ha];have:=hst _ (List.getElem_mem ha);unfold cdP;omega) (fun a ha b hb e=>hE.nd a ha b hb (qfa (by
  rw[qb2 ha];have:=hst _ (List.getElem_mem ha);omega) (by
  rw[qb2 hb];have:=hst _ (List.getElem_mem hb);omega) e))
end
def cdL (ATX ATY OA OB:List Nat) (m:Nat) (p:Nat×Nat):Nat:=(gN ATX (gN OA p.1)-1)*m+(gN ATY (gN OB p.2)-1)
def prL (X Y:List Nat) (c:Nat):Spn:=(((gN X (c/Y.length):Nat):Int),((gN Y (c%Y.length):Nat):Int))
theorem qlx {OU X AT:List Nat} (h:LbI OU AT.length X AT) (hl:∀x∈OU,x<AT.length) {s:Nat} (hs:s<OU.length):gN OU s<AT.length∧0<gN AT (gN OU s)∧gN AT (gN OU s)-1<X.length∧gN X (gN AT (gN OU s)-1)=gN OU s:=by
 have hm:gN OU s∈OU:=by rw[qah hs];exact List.getElem_mem hs
 obtain⟨h1,h2⟩:=h.lo _ (hl _ hm) hm;obtain⟨h3,h4⟩:=List.getElem?_eq_some_iff.1 h2;exact⟨hl _ hm,h1,h3,by rw[qah h3,h4]⟩
theorem qoy {X:List Nat} (h:X.Pairwise (· < ·)) {i j:Nat} (hij:i<j) (hj:j<X.length):gN X i<gN X j:=by
 rw[qah (by omega),qah hj];exact List.pairwise_iff_getElem.1 h i j (by omega) hj hij
section
variable {OA OB ATX ATY X Y IS Q:List Nat} {St:List (Nat×Nat)}
theorem qf5 (hX:LbI OA ATX.length X ATX) (hY:LbI OB ATY.length Y ATY) (lX:∀x∈OA,x<ATX.length) (lY:∀x∈OB,x<ATY.length) {p:Nat×Nat} (h1:p.1<OA.length) (h2:p.2<OB.length):cdL ATX ATY OA OB Y.length p<X.length*Y.length∧prL X Y (cdL ATX ATY OA OB Y.length p)=(((gN OA p.1:Nat):Int),((gN OB p.2:Nat):Int)):=by
 obtain⟨_,a1,a2,a3⟩:=qlx hX lX h1;obtain⟨_,b1,b2,b3⟩:=qlx hY lY h2;unfold cdL prL;generalize gN ATX (gN OA p.1)-1=i at *;generalize gN ATY (gN OB p.2)-1=j at *;have hm:0<Y.length:=by omega
 have e1:(i*Y.length+j)/Y.length=i:=by
  rw[Nat.mul_comm,Nat.mul_add_div hm,Nat.div_eq_of_lt b2,Nat.add_zero]
 have e2:(i*Y.length+j)%Y.length=j:=by
  rw[Nat.mul_comm,Nat.mul_add_mod,Nat.mod_eq_of_lt b2]
 refine⟨?_,by rw[e1,e2,a3,b3]⟩;have h3:(i+1)*Y.length≤X.length*Y.length:=Nat.mul_le_mul_right _ a2;rw[Nat.add_mul,Nat.one_mul] at h3;omega
theorem qoz (hX:X.Pairwise (· < ·)) (hY:Y.Pairwise (· < ·)) {c d:Nat} (hc:c<d) (hd:d<X.length*Y.length):PLt (prL X Y c) (prL X Y d):=by
 have hm:0<Y.length:=by
  rcases Nat.eq_zero_or_pos Y.length with h|h
  ·rw[h] at hd;omega
  ·exact h
 have h1:d/Y.length<X.length:=Nat.div_lt_of_lt_mul (by rw[Nat.mul_comm];exact hd);have h2:c/Y.length≤d/Y.length:=Nat.div_le_div_right (by omega);unfold prL PLt;rcases Nat.lt_or_ge (c/Y.length) (d/Y.length) with h3|h3
 ·exact .inl (Int.ofNat_lt.2 (qoy hX h3 h1))
 ·have e:c/Y.length=d/Y.length:=by omega
  have h4:c%Y.length<d%Y.length:=by
   have q1:=Nat.div_add_mod c Y.length;have q2:=Nat.div_add_mod d Y.length;rw[e] at q1;omega
  exact .inr ⟨by rw[e],Int.ofNat_lt.2 (qoy hY h4 (Nat.mod_lt _ hm))⟩
theorem qo0 (hX:LbI OA ATX.length X ATX) (hY:LbI OB ATY.length Y ATY) (lX:∀x∈OA,x<ATX.length) (lY:∀x∈OB,x<ATY.length) (hst:∀p∈St,p.1<OA.length∧p.2<OB.length) (hI:IS.length=X.length*Y.length) (hQ:LbI (St.map (cdL ATX ATY OA OB Y.length)) IS.length Q IS):RoS (lpL OA OB St) (Q.map (prL X Y)):=by
 refine⟨?_,fun x=>?_⟩
 ·rw[List.pairwise_map]
  have hq:∀c∈Q,c<X.length*Y.length:=fun c hc=>by rw[←hI];exact(hQ.mem.1 hc).1
  exact hQ.sorted.imp_of_mem (fun _ hd h=>qoz hX.sorted hY.sorted h (hq _ hd))
 ·constructor
  ·intro hx
   obtain⟨c,hc,rfl⟩:=List.mem_map.1 hx;obtain⟨p,hp,rfl⟩:=List.mem_map.1 (hQ.mem.1 hc).2;rw[(qf5 hX hY lX lY (hst p hp).1 (hst p hp).2).2];exact List.mem_map.2 ⟨p,hp,rfl⟩
  ·intro hx
   obtain⟨p,hp,rfl⟩:=List.mem_map.1 hx;obtain⟨h1,h2⟩:=qf5 hX hY lX lY (hst p hp).1 (hst p hp).2;exact List.mem_map.2 ⟨_,hQ.mem.2 ⟨by rw[hI];exact h1,List.mem_map.2 ⟨p,hp,rfl⟩⟩,h2⟩
def plO (IS:List Nat) (CL:List Nat):List Nat:=CL.map fun c=>gN IS c-1
theorem qhe:(plO IS Q).length=Q.length:=by simp[plO]
theorem qly {CL:List Nat} {i:Nat} (h:i<CL.length):plO IS (CL.take i)++[gN IS (gN CL i)-1]=plO IS (CL.take (i+1)):=by
 rw[List.take_succ_eq_append_getElem h,qah h];simp only[plO,List.map_append,List.map_cons,List.map_nil]
theorem qo1 (hX:LbI OA ATX.length X ATX) (hY:LbI OB ATY.length Y ATY) (lX:∀x∈OA,x<ATX.length) (lY:∀x∈OB,x<ATY.length) (hst:∀p∈St,p.1<OA.length∧p.2<OB.length) (hI:IS.length=X.length*Y.length) (hQ:LbI (St.map (cdL ATX ATY OA OB Y.length)) IS.length Q IS) {j:Nat} (hj:j<St.length):0<gN IS (cdL ATX ATY OA OB Y.length (gS (0,0) St j))∧gN IS (cdL ATX ATY OA OB Y.length (gS (0,0) St j))-1<Q.length∧gN Q (gN IS (cdL ATX ATY OA OB Y.length (gS (0,0) St j))-1)=cdL ATX ATY OA OB Y.length (gS (0,0) St j):=by
 have hp:gS (0,0) St j∈St:=by rw[qb2 hj];exact List.getElem_mem hj
 obtain⟨h1,h2⟩:=qf5 hX hY lX lY (hst _ hp).1 (hst _ hp).2;obtain⟨h3,h4⟩:=hQ.lo _ (by rw[hI];exact h1) (List.mem_map.2 ⟨_,hp,rfl⟩);obtain⟨h5,h6⟩:=List.getElem?_eq_some_iff.1 h4;exact⟨h3,h5,by rw[qah h5,h6]⟩
theorem qo2 (hX:LbI OA ATX.length X ATX) (hY:LbI OB ATY.length Y ATY) (lX:∀x∈OA,x<ATX.length) (lY:∀x∈OB,x<ATY.length) (hst:∀p∈St,p.1<OA.length∧p.2<OB.length) (hI:IS.length=X.length*Y.length) (hQ:LbI (St.map (cdL ATX ATY OA OB Y.length)) IS.length Q IS):Plc (Q.map (prL X Y)) (lpL OA OB St) (plO IS (St.map (cdL ATX ATY OA OB Y.length))) St.length:=by
 refine⟨by rw[qhe,List.length_map],fun j hj=>?_⟩;obtain⟨h1,h2,h3⟩:=qo1 hX hY lX lY hst hI hQ hj;have hp:gS (0,0) St j∈St:=by rw[qb2 hj];exact List.getElem_mem hj
 have e:gN (plO IS (St.map (cdL ATX ATY OA OB Y.length))) j=gN IS (cdL ATX ATY OA OB Y.length (gS (0,0) St j))-1:=by
  rw[qah (by rw[qhe,List.length_map];exact hj),qb2 hj];simp[plO]
 rw[e];refine⟨by rw[List.length_map];exact h2,?_⟩;rw[qch (by rw[List.length_map];exact h2),qd6 (z:=(0,0)) hj,List.getElem_map,←qah h2,h3];exact(qf5 hX hY lX lY (hst _ hp).1 (hst _ hp).2).2
end
theorem qj9:∀ {P Q:List Spn},P.Pairwise PLt→Q.Pairwise PLt→(∀x,x∈P↔x∈Q)→P=Q
 |[],[],_,_,_=>rfl
 |[],q::_,_,_,h=>absurd ((h q).2 List.mem_cons_self) List.not_mem_nil
 |p::_,[],_,_,h=>absurd ((h p).1 List.mem_cons_self) List.not_mem_nil
 |p::P,q::Q,hP,hQ,h=>by
  obtain⟨p1,p2⟩:=List.pairwise_cons.1 hP;obtain⟨q1,q2⟩:=List.pairwise_cons.1 hQ;have e:p=q:=by
   rcases List.mem_cons.1 ((h p).1 List.mem_cons_self) with e|h1
   ·exact e
   rcases List.mem_cons.1 ((h q).2 List.mem_cons_self) with e|h2
   ·exact e.symm
   have h3:=q1 p h1;have h4:=p1 q h2;unfold PLt at h3 h4;omega
  subst e;have irr:∀s:Spn,¬PLt s s:=fun s hs=>by unfold PLt at hs;omega
  rw[qj9 p2 q2 (fun x=>⟨fun hx=>by
   rcases List.mem_cons.1 ((h x).1 (List.mem_cons_of_mem _ hx)) with e|h1
   ·exact absurd (e▸p1 x hx) (irr _)
   ·exact h1,fun hx=>by
   rcases List.mem_cons.1 ((h x).2 (List.mem_cons_of_mem _ hx)) with e|h1
   ·exact absurd (e▸q1 x hx) (irr _)
   ·exact h1⟩)]
structure JnT (A B E:DF) (P:List Spn):Prop where
 up:P.Pairwise PLt
 rch:∀x∈P,∃t,Txt t∧x=(A.lab 0 t,B.lab 0 t)
 lab:∀t,Txt t→∃i:Nat,E.lab 0 t=(i:Int)∧i<P.length∧gQ P i=(A.lab 0 t,B.lab 0 t)
theorem JnT.mem {A B E:DF} {P:List Spn} (h:JnT A B E P) {x:Spn}:x∈P↔∃t,Txt t∧x=(A.lab 0 t,B.lab 0 t):=⟨h.rch x,fun⟨t,ht,e⟩=>by
 obtain⟨i,_,hi,e2⟩:=h.lab t ht;rw[e,←e2,qch hi];exact List.getElem_mem hi⟩
theorem JnT.one {A B E F:DF} {P Q:List Spn} (h:JnT A B E P) (k:JnT A B F Q):P=Q∧∀t,Txt t→E.lab 0 t=F.lab 0 t:=by
 have e:P=Q:=qj9 h.up k.up (fun x=>by rw[h.mem,k.mem]);subst e;refine⟨rfl,fun t ht=>?_⟩;obtain⟨i,i1,i2,i3⟩:=h.lab t ht;obtain⟨j,j1,j2,j3⟩:=k.lab t ht;rw[i1,j1,qhd h.up i2 j2 (by rw[i3,j3])]
def qo9 (A B:DF):Prop:=∀(E:DF) (P:List Spn),E.Ok→JnT A B E P→257≤E.n
theorem qd4.jn {A B:DF} (h:qd4 A B) (hA:A.Right) (hB:B.Right):qo9 A B:=fun E P hE hT=>h.no hA hB E hE (fun t u ht hu e=>by
 obtain⟨i,i1,_,i3⟩:=hT.lab t ht;obtain⟨j,j1,_,j3⟩:=hT.lab u hu;rw[i1,j1] at e;have e2:i=j:=Int.ofNat.inj e;rw[e2,j3] at i3;injection i3 with e3 e4
 exact⟨e3.symm,e4.symm⟩)
theorem qcm.jn {A B D:DF} {P:List Spn} (h:qcm D) (hT:JnT A B D P):qo9 A B:=fun E _ hE hQ=>h E hE (hQ.one hT).2
def JnP (A B:DF) (base:Nat) (e:Ending) (w:World):Prop:=
 (qo9 A B∧e=.returned (.tuple #[.agg #[.string ⟨#[]⟩,.slice none 0 0,.slice none 0 0],.slice none 0 0,.int .i64 2]))∨
 ∃(bs:By) (xa:Option Addr) (xn xc:Nat) (oa:Option Addr) (on oc:Nat) (NX OU:List Nat) (pa:Option Addr) (c:Nat) (P:List Spn),e=.returned (.tuple #[.agg #[.string ⟨bs.toArray⟩,.slice xa xn xc,.slice oa on oc],.slice pa P.length c,.int .i64 0])∧Rws w base [(.slice xa xn xc,NX),(.slice oa on oc,OU)]∧qa3 w base (.slice pa P.length c) P∧qbv bs NX OU∧(dfA bs NX OU).Right∧OU.length≤256∧JnT A B (dfA bs NX OU) P
theorem JoP.jn {A B:DF} {base:Nat} {e:Ending} {w:World} (h:JoP A B base e w) (hA:A.Right) (hB:B.Right):JnP A B base e w:=by
 rcases h with⟨h1,h2⟩|⟨bs,xa,xn,xc,oa,on,oc,NX,OU,g,c,P,h1,h2,h3,h4,h5,h6,h7,h8,h9⟩
 ·exact .inl ⟨h1.jn hA hB,h2⟩
 ·exact .inr ⟨bs,xa,xn,xc,oa,on,oc,NX,OU,_,c,P,h1,h2,h3,h4,h5,h6,⟨h7,h8,h9⟩⟩
end Go.Proofs.YtdgoilkgplnhfaaGreat
namespace Go.Proofs.YtdgoilkgplnhfaaGreat
open Go.RowKit Go.Lib
abbrev VR:=Value×TypeId×List Value
structure Vrs (w:World) (base:Nat) (R:List VR):Prop where
 own:∀j (h:j<R.length),w.ownsRow base (R[j]).2.1 1 (R[j]).1 (R[j]).2.2.length (R[j]).2.2
 ap:∀j (h:j<R.length) k (h':k<R.length),j≠k→∀b,(R[j]).1.ownBlock=some b→¬(R[k]).1.ownBlock=some b
structure Fr (w0:World) (R:List VR) (w:World):Prop where
 rs:Vrs w w0.heap.size R
 bel:Below w0.heap.size w0 w
section
variable {w0 w w':World} {base:Nat} {R:List VR}
theorem Vrs.below (h:Vrs w base R) (x:Below w.heap.size w w'):Vrs w' base R:=⟨fun j hj=>own_below (h.own j hj) x,h.ap⟩
theorem Vrs.upd {F:Nat→Prop} (h:Vrs w base R) {i:Nat} (hi:i<R.length) {v':Value} {e:TypeId} {L':List Value} (h1:w'.ownsRow base e 1 v' L'.length L') (hk:Kept F w w') (hF:∀b,F b→(R[i]).1.ownBlock=some b) (hv:∀b,v'.ownBlock=some b→(R[i]).1.ownBlock=some b∨w.heap.size≤b):Vrs w' base (R.set i (v',e,L')):=by
 refine⟨fun j hj=>?_,fun j hj k hk' hne b hb hb2=>?_⟩
 ·rw[List.length_set] at hj
  by_cases hji:i=j
  ·subst hji
   rw[List.getElem_set_self];exact h1
  ·rw[List.getElem_set_ne hji]
   exact qai (h.own j hj) hk (fun b hb hf=>h.ap j hj i hi (fun e=>hji e.symm) b hb (hF b hf))
 ·rw[List.length_set] at hj hk'
  have hlt:∀m (hm:m<R.length) b,(R[m]).1.ownBlock=some b→b<w.heap.size:=fun m hm b hb=>(World.ownsRow.lt (h.own m hm) b hb).2
  by_cases hji:i=j
  ·subst hji
   rw[List.getElem_set_self] at hb;rw[List.getElem_set_ne hne] at hb2;rcases hv b hb with h3|h3
   ·exact h.ap i hi k hk' hne b h3 hb2
   ·have:=hlt k hk' b hb2;omega
  ·rw[List.getElem_set_ne hji] at hb
   by_cases hki:i=k
   ·subst hki
    rw[List.getElem_set_self] at hb2;rcases hv b hb2 with h3|h3
    ·exact h.ap j hj i hi hne b hb h3
    ·have:=hlt j hj b hb;omega
   ·rw[List.getElem_set_ne hki] at hb2
    exact h.ap j hj k hk' hne b hb hb2
theorem Vrs.cons (h:Vrs w base R) (x:Below w.heap.size w w') {v:Value} {e:TypeId} {L:List Value} (ho:w'.ownsRow base e 1 v L.length L) (hb:∀b,v.ownBlock=some b→w.heap.size≤b):Vrs w' base (R++[(v,e,L)]):=by
 have h':=h.below x;have hlt:∀m (hm:m<R.length) b,(R[m]).1.ownBlock=some b→b<w.heap.size:=fun m hm b hb=>(World.ownsRow.lt (h.own m hm) b hb).2
 refine⟨fun j hj=>?_,fun j hj k hk hne b h1 h2=>?_⟩
 ·by_cases hjl:j<R.length
  ·rw[List.getElem_append_left hjl];exact h'.own j hjl
  ·have:j=R.length:=by rw[List.length_append,List.length_singleton] at hj;omega
   subst this;rw[List.getElem_append_right (Nat.le_refl _)];simpa using ho
 ·by_cases hjl:j<R.length
  ·rw[List.getElem_append_left hjl] at h1
   by_cases hkl:k<R.length
   ·rw[List.getElem_append_left hkl] at h2;exact h.ap j hjl k hkl hne b h1 h2
   ·have:k=R.length:=by rw[List.length_append,List.length_singleton] at hk;omega
    subst this;rw[List.getElem_append_right (Nat.le_refl _)] at h2;have:=hlt j hjl b h1;have:=hb b (by simpa using h2);omega
  ·have:j=R.length:=by rw[List.length_append,List.length_singleton] at hj;omega
   subst this;rw[List.getElem_append_right (Nat.le_refl _)] at h1;have hkl:k<R.length:=by rw[List.length_append,List.length_singleton] at hk;omega
   rw[List.getElem_append_left hkl] at h2;have:=hlt k hkl b h2;have:=hb b (by simpa using h1);omega
theorem Vrs.nil (w:World) (base:Nat):Vrs w base []:=⟨fun j hj=>(by cases hj),fun j hj=>(by cases hj)⟩
theorem Fr.start (w0:World):Fr w0 [] w0:=⟨Vrs.nil _ _,Below.refl _ _⟩
theorem Fr.below (h:Fr w0 R w) (x:Below w.heap.size w w'):Fr w0 R w':=⟨h.rs.below x,h.bel.trans (x.mono h.bel.size)⟩
theorem Fr.drew (h:Fr w0 R w) (n:Nat):Fr w0 R (w.drewN n):=h.below ⟨rfl,rfl,rfl,Nat.le_refl _,fun _ _=>rfl⟩
theorem Fr.cons (h:Fr w0 R w) (x:Below w.heap.size w w') {v:Value} {e:TypeId} {L:List Value} (ho:w'.ownsRow w0.heap.size e 1 v L.length L) (hb:∀b,v.ownBlock=some b→w.heap.size≤b):Fr w0 (R++[(v,e,L)]) w':=⟨h.rs.cons x ho hb,h.bel.trans (x.mono h.bel.size)⟩
theorem Fr.store (h:Fr w0 R w) {i:Nat} (hi:i<R.length) {g n cap:Nat} {e:TypeId} {L:List Value} (hR:R[i]=(.slice (some ⟨g,0,none⟩) n cap,e,L)) (k:Nat) (x:Value):Fr w0 (R.set i (.slice (some ⟨g,0,none⟩) n cap,e,L.set k x)) (w.setCell ⟨g,k,none⟩ x):=by
 have ho:=h.rs.own i hi;rw[hR] at ho;have hn:n=L.length:=by
  rcases ho.2 with⟨e,e2⟩|⟨g',c',cur,e,_⟩
  ·cases e
  ·injection e with _ e2 _
 subst hn;have hg:=(World.ownsRow.lt ho g rfl).1;obtain⟨h1,h2⟩:=ho.stored k x;have k1:Kept (fun b=>b=g) w (w.setCell ⟨g,k,none⟩ x):=(qae h2).mono (fun b hb=>by injection hb with hb;exact hb.symm);exact⟨h.rs.upd hi (by rw[List.length_set];exact h1) k1 (fun b hb=>by rw[hR,hb];rfl) (fun b hb=>.inl (by rw[hR];exact hb)),h.bel.trans (k1.below h.bel.size (fun b hb=>by omega))⟩
theorem Fr.app (h:Fr w0 R w) {w5:World} (x5:Below w.heap.size w w5) {i:Nat} (hi:i<R.length) {v v' x:Value} {e:TypeId} {L:List Value} (hR:R[i]=(v,e,L)) (h1:w'.ownsRow w0.heap.size e 1 v' (L.length+1) (L++[x])) (h2:qbb w5 w' v v'):Fr w0 (R.set i (v',e,L++[x])) w':=by
 have h5:=h.below x5;have o:w'.ownsRow w0.heap.size e 1 v' (L++[x]).length (L++[x]):=by
  rw[List.length_append,List.length_singleton];exact h1
 have ov:=h5.rs.own i hi;rw[hR] at ov;have hv:(R[i]).1=v:=by rw[hR]
 rcases h2 with⟨q,a,b,c⟩|⟨a,b⟩
 ·have k6:=qae c
  exact⟨h5.rs.upd hi o k6 (fun k hk=>by rw[hv];exact a.trans hk) (fun k hk=>.inl (by rw[hv,a,←b];exact hk)),h5.bel.trans (k6.below h5.bel.size (fun k hk=>(World.ownsRow.lt ov k (a.trans hk)).1))⟩
 ·have x6:=qad a
  exact⟨h5.rs.upd (F:=fun _=>False) hi o (Kept.of_below x6) (fun k hk=>hk.elim) (fun k hk=>.inr (b k hk)),h5.bel.trans (x6.mono h5.bel.size)⟩
theorem Fr.own (h:Fr w0 R w) {i:Nat} (hi:i<R.length) {v:Value} {e:TypeId} {L:List Value} (hR:R[i]=(v,e,L)):w.ownsRow w0.heap.size e 1 v L.length L:=by
 have ho:=h.rs.own i hi;rw[hR] at ho;exact ho
theorem Fr.shape (h:Fr w0 R w) {i:Nat} (hi:i<R.length) {v:Value} {e:TypeId} {L:List Value} (hR:R[i]=(v,e,L)):∃ao cap,v=.slice ao L.length cap:=by
 obtain⟨ao,cap,e,_⟩:=qag (h.own hi hR);exact⟨ao,cap,e⟩
theorem Fr.cell (h:Fr w0 R w) {i:Nat} (hi:i<R.length) {ao:Option Addr} {n cap:Nat} {e:TypeId} {L:List Value} (hR:R[i]=(.slice ao n cap,e,L)) {k:Nat} (hk:k<L.length):∃g,ao=some ⟨g,0,none⟩∧w.cell? ⟨g,k,none⟩=some L[k]∧w.frozen? ⟨g,k,none⟩=false:=by
 have ho:=h.own hi hR;obtain⟨a2,c2,e2,hp⟩:=qag ho;obtain⟨g,hg⟩:=hp (by omega);simp only[Value.slice.injEq] at e2;obtain⟨e1,e3,e4⟩:=e2;rw[hg] at e1;subst e1 e3 e4;have:=ho.cellAt k (by omega);rw[List.getElem?_eq_getElem (by omega)] at this;exact⟨g,rfl,this,ho.frozenAt _⟩
end
def bC (B:List Bool):List Value:=B.map Value.bool
theorem qmk (B:List Bool):(bC B).length=B.length:=by simp[bC]
theorem qo3 (B:List Bool) (i:Nat) (x:Bool):(bC B).set i (.bool x)=bC (B.set i x):=by simp[bC,List.map_set]
section
variable {w0 w w4:World} {R:List VR}
theorem Fr.slot (h:Fr w0 R w) {i:Nat} (hi:i<R.length) {g n cap:Nat} {e:TypeId} {L:List Value} (hR:R[i]=(.slice (some ⟨g,0,none⟩) n cap,e,L)) {k:Nat} (hk:k<L.length):w.cell? ⟨g,k,none⟩=some L[k]∧w.frozen? ⟨g,k,none⟩=false:=by
 obtain⟨g',e1,h1,h2⟩:=h.cell hi hR hk;simp only[Option.some.injEq,Addr.mk.injEq] at e1;obtain⟨rfl,_⟩:=e1;exact⟨h1,h2⟩
theorem Fr.slotN (h:Fr w0 R w) {i:Nat} (hi:i<R.length) {g n cap:Nat} {L:List Nat} (hR:R[i]=(.slice (some ⟨g,0,none⟩) n cap,3,qab L)) {k:Nat} (hk:k<L.length):w.cell? ⟨g,k,none⟩=some (.int .i64 ((gN L k:Nat):Int))∧w.frozen? ⟨g,k,none⟩=false:=by
 obtain⟨h1,h2⟩:=h.slot hi hR (k:=k) (by rw[qaf];exact hk);refine⟨?_,h2⟩;rw[h1,qah hk];simp[qab]
theorem Fr.slotB (h:Fr w0 R w) {i:Nat} (hi:i<R.length) {g n cap:Nat} {B:List Bool} (hR:R[i]=(.slice (some ⟨g,0,none⟩) n cap,4,bC B)) {k:Nat} (hk:k<B.length):w.cell? ⟨g,k,none⟩=some (.bool (B.getD k false))∧w.frozen? ⟨g,k,none⟩=false:=by
 obtain⟨h1,h2⟩:=h.slot hi hR (k:=k) (by rw[qmk];exact hk);refine⟨?_,h2⟩;rw[h1];simp[bC,List.getD_eq_getElem?_getD,hk]
theorem Fr.nat (h:Fr w0 R w) {i:Nat} (hi:i<R.length) {v:Value} {L:List Nat} (hR:R[i]=(v,3,qab L)):∃ao cap,v=.slice ao L.length cap∧NAt w ao L:=by
 have ho:=h.own hi hR;rw[qaf] at ho;exact qan.at (show qan w w0.heap.size v L from ho)
theorem Fr.storeN (h:Fr w0 R w) {i:Nat} (hi:i<R.length) {g n cap:Nat} {L:List Nat} (hR:R[i]=(.slice (some ⟨g,0,none⟩) n cap,3,qab L)) (k x:Nat):Fr w0 (R.set i (.slice (some ⟨g,0,none⟩) n cap,3,qab (L.set k x))) (w.setCell ⟨g,k,none⟩ (.int .i64 (x:Int))):=by
 rw[←qbq];exact h.store hi hR k _
theorem Fr.storeB (h:Fr w0 R w) {i:Nat} (hi:i<R.length) {g n cap:Nat} {B:List Bool} (hR:R[i]=(.slice (some ⟨g,0,none⟩) n cap,4,bC B)) (k:Nat) (x:Bool):Fr w0 (R.set i (.slice (some ⟨g,0,none⟩) n cap,4,bC (B.set k x))) (w.setCell ⟨g,k,none⟩ (.bool x)):=by
 rw[←qo3];exact h.store hi hR k _
theorem Fr.madeB (h:Fr w0 R w) {n:Nat} (m1:w4.ownsRow w0.heap.size 4 1 (.slice (some ⟨w.heap.size,0,none⟩) n n) n (madeCells (Value.bool false).cells (n*1)).toList) (m2:w.grownBy w4 none):Fr w0 (R++[(.slice (some ⟨w.heap.size,0,none⟩) n n,4,bC (List.replicate n false))]) w4:=by
 rw[qcz] at m1;refine h.cons (qad m2) ?_ (fun b hb=>by have e:w.heap.size=b:=Option.some.inj hb;omega);rw[qmk,List.length_replicate];exact m1
theorem Fr.madeN (h:Fr w0 R w) {n:Nat} (m1:w4.ownsRow w0.heap.size 3 1 (.slice (some ⟨w.heap.size,0,none⟩) n n) n (madeCells (Value.int .i64 0).cells (n*1)).toList) (m2:w.grownBy w4 none):Fr w0 (R++[(.slice (some ⟨w.heap.size,0,none⟩) n n,3,qab (List.replicate n 0))]) w4:=by
 rw[qbs] at m1;refine h.cons (qad m2) ?_ (fun b hb=>by have e:w.heap.size=b:=Option.some.inj hb;omega);rw[qaf,List.length_replicate];exact m1
theorem Fr.bare (h:Fr w0 R w) (e:TypeId):Fr w0 (R++[(.slice none 0 0,e,[])]) w:=h.cons (Below.refl _ _) (World.ownsRow_nil w _ e 1) (fun b hb=>by cases hb)
theorem Fr.pre (h:Fr w0 R w) {i:Nat} (hi:i<R.length) {v:Value} {L:List Nat} (hR:R[i]=(v,3,qab L)) (z:Int):(w.alloc (.cells #[.int .i64 z] 3)).ownsRow w0.heap.size 3 1 v L.length (qab L)∧(∀(j:Nat) (u:Value),[Value.int .i64 z][j]? =some u→(w.alloc (.cells #[.int .i64 z] 3)).cell? ((⟨w.heap.size,0,none⟩:Addr).add j)=some u)∧w0.heap.size≤(w.alloc (.cells #[.int .i64 z] 3)).heap.size:=by
 have x5:Below w.heap.size w (w.alloc (.cells #[.int .i64 z] 3)):=al (Below.refl _ _) _;refine⟨?_,fun j u hu=>?_,Nat.le_trans h.bel.size x5.size⟩
 ·have ho:=h.own hi hR
  rw[qaf] at ho;exact own_below ho x5
 ·have hB:=heap_alloc_new w (.cells #[.int .i64 z] 3)
  rw[addr_add,cell_of_row _ _ _ _ _ _ hB];simpa using hu
theorem Fr.push (h:Fr w0 R w) {i:Nat} (hi:i<R.length) {v v':Value} {L:List Nat} (hR:R[i]=(v,3,qab L)) {x:Nat} (h1:w4.ownsRow w0.heap.size 3 1 v' (L.length+1) (qab L++[.int .i64 (x:Int)])) (h2:qbb (w.alloc (.cells #[.int .i64 (x:Int)] 3)) w4 v v'):Fr w0 (R.set i (v',3,qab (L++[x]))) w4:=by
 rw[qa1];exact h.app (al (Below.refl _ _) _) hi hR (by rw[qaf];exact h1) h2
end
section
variable {w0 w w':World} {R:List VR}
theorem Fr.sel (h:Fr w0 R w) {R':List VR} (f:Nat→Nat) (hf:∀j (hj:j<R'.length),∃hk:f j<R.length,R'[j]=R[f j]) (hi:∀j,j<R'.length→∀k,k<R'.length→f j=f k→j=k):Fr w0 R' w:=by
 refine⟨⟨fun j hj=>?_,fun j hj k hk hne b h1 h2=>?_⟩,h.bel⟩
 ·obtain⟨hk,e⟩:=hf j hj
  rw[e];exact h.rs.own _ hk
 ·obtain⟨hj',e1⟩:=hf j hj
  obtain⟨hk',e2⟩:=hf k hk;rw[e1] at h1;rw[e2] at h2;exact h.rs.ap _ hj' _ hk' (fun e=>hne (hi j hj k hk e)) b h1 h2
theorem Fr.front {x:VR} (h:Fr w0 (R++[x]) w):Fr w0 (x::R) w:=by
 refine h.sel (fun j=>if j=0 then R.length else j-1) (fun j hj=>?_) (fun j hj k hk e=>?_)
 ·cases j with
  |zero=>exact⟨by simp,by simp⟩
  |succ j=>
   have hj':j<R.length:=by simpa using hj
   refine⟨by simp;omega,?_⟩;simp[List.getElem_append_left hj']
 ·simp only[List.length_cons] at hj hk
  by_cases h1:j=0
  ·by_cases h2:k=0
   ·omega
   ·simp only[if_pos h1,if_neg h2] at e;omega
  ·by_cases h2:k=0
   ·simp only[if_neg h1,if_pos h2] at e;omega
   ·simp only[if_neg h1,if_neg h2] at e;omega
theorem Fr.tail {x:VR} (h:Fr w0 (x::R) w):Fr w0 R w:=by
 refine h.sel (fun j=>j+1) (fun j hj=>⟨by simp;exact hj,by simp⟩) (fun j _ k _ e=>by omega)
theorem Fr.swap {x y:VR} (h:Fr w0 (x::y::R) w):Fr w0 (y::x::R) w:=by
 refine h.sel (fun j=>if j=0 then 1 else if j=1 then 0 else j) (fun j hj=>?_) (fun j _ k _ e=>?_)
 ·match j,hj with
  |0,_=>exact⟨by simp,by simp⟩
  |1,_=>exact⟨by simp,by simp⟩
  |j+2,hj=>exact⟨by simpa using hj,by simp⟩
 ·have key:∀j:Nat,(if j=0 then 1 else if j=1 then 0 else j)=1∧j=0∨(if j=0 then 1 else if j=1 then 0 else j)=0∧j=1∨(if j=0 then 1 else if j=1 then 0 else j)=j∧1<j:=fun j=>by
   by_cases h1:j=0
   ·simp[h1]
   ·by_cases h2:j=1
    ·simp[h2]
    ·simp[h1,h2];omega
  have h1:=key j;have h2:=key k;omega
theorem Fr.drop3 {x y z u:VR} (h:Fr w0 (x::y::z::u::R) w):Fr w0 (x::y::z::R) w:=by
 refine h.sel (fun j=>if j<3 then j else j+1) (fun j hj=>?_) (fun j _ k _ e=>?_)
 ·match j,hj with
  |0,_=>exact⟨by simp,by simp⟩
  |1,_=>exact⟨by simp,by simp⟩
  |2,_=>exact⟨by simp,by simp⟩
  |j+3,hj=>
   have hj':j<R.length:=by simpa using hj
   have e:(if j+3<3 then j+3 else j+3+1)=j+4:=by rw[if_neg (by omega)]
   exact⟨by rw[e];simp;exact hj',by simp only[e];simp⟩
 ·have key:∀j:Nat,(if j<3 then j else j+1)=j∧j<3∨(if j<3 then j else j+1)=j+1∧3≤j:=fun j=>by
   by_cases h1:j<3
   ·simp[h1]
   ·simp[h1];omega
  have h1:=key j;have h2:=key k;omega
theorem Fr.box (h:Fr w0 R w) (e:TypeId) (cs:List Value) (hl:cs.length≤maxLen):Fr w0 ((.slice (some ⟨w.heap.size,0,none⟩) cs.length cs.length,e,cs)::R) (w.alloc (.cells cs.toArray e)):=by
 refine Fr.front (h.cons (al (Below.refl _ _) _) ?_ (fun b hb=>by have e:w.heap.size=b:=Option.some.inj hb;omega));exact⟨by simp,.inr ⟨w.heap.size,cs.length,cs.toArray,rfl,h.bel.size,heap_alloc_new _ _,Nat.le_refl _,hl,by simp,by simp⟩⟩
theorem Fr.mkN (h:Fr w0 R w) {n:Nat} (m1:w'.ownsRow w0.heap.size 3 1 (.slice (some ⟨w.heap.size,0,none⟩) n n) n (madeCells (Value.int .i64 0).cells (n*1)).toList) (m2:w.grownBy w' none):Fr w0 ((.slice (some ⟨w.heap.size,0,none⟩) n n,3,qab (List.replicate n 0))::R) w':=(h.madeN m1 m2).front
end
set_option maxRecDepth 100000 in
set_option maxHeartbeats 4000000 in
theorem qka (bs:By) (na oa:Option Addr) (nl nc ol oc:Nat) (w:World) (hb:bs.length=256):
 Calls Tryz.prog 36 #[auV bs na nl nc oa ol oc] w fun e w'=>(∃ao cap L B,e=.returned (.slice ao L.length cap)∧NAt w' ao L∧ClT (fun b=>(bs.getD b 0).toNat) 256 B L)∧Below w.heap.size w w':=by
 obtain⟨i3,hi3,hz30,hz31,hz32⟩:=info_parts Tryz.info3n;obtain⟨i4,hi4,hz40,hz41,hz42⟩:=info_parts Tryz.info4n;obtain⟨w2,hw2⟩:∃w2,w2=w.alloc (.cells #[.string ⟨bs.toArray⟩,.slice na nl nc,.slice oa ol oc] 24):=⟨_,rfl⟩;have X2:Below w.heap.size w w2:=by rw[hw2];exact al (Below.refl _ _) _
 have B2:w2.heap[w.heap.size]? =some (.cells #[.string ⟨bs.toArray⟩,.slice na nl nc,.slice oa ol oc] 24 (0,0)):=by rw[hw2];exact heap_alloc_new w _
 have HC:Hid (∀V,Below w2.heap.size w2 V→V.cell? ⟨w.heap.size,0,none⟩=some (.string ⟨bs.toArray⟩)):=fun V x=>by
  have Bv:=(x.block _ (lt_of_block B2)).trans B2;rw[cell_of_row _ _ _ _ _ _ Bv];rfl
 have HX2:=qaa X2;clear X2 B2;unfold auV;go_enter Tryz.func36,Tryz.ntmps36;go_upto_region 1 with fail
 rw[←hw2];clear hw2;go_upto_region 2 with(at_make;refine wpList_make_full _ rfl (.const (.int .i64 256)) (.const (.int .i64 256)) 86 rfl w2.heap.size 4 i4 (.bool false) 1 Tryz.underlying86 hi4 hz40 hz41 .i64 .i64 _ _ 256 rfl rfl rfl rfl (by rw[hz42];decide) (by unfold maxLen;decide) (Nat.le_refl _) ?_;intro w3 m1 m2;have F3:=qaa (((Fr.start w2).madeB m1 m2).bare 3);clear m1 m2)
 obtain⟨gb,hgb⟩:∃gb,gb=w2.heap.size:=⟨_,rfl⟩;rw[←hgb] at F3 ⊢;have HGB:=qaa hgb;clear hgb;go_wp2;go_loopg [4,5] 257 (fun g x y wr=>∃(k:Nat) (L:List Nat) (B:List Bool),y=.int .i64 (k:Nat)∧k≤256∧Hid (Fr w2 [(.slice (some ⟨gb,0,none⟩) 256 256,4,bC B),(x,3,qab L)] wr)∧Hid (ClT (fun b=>(bs.getD b 0).toNat) k B L)∧256-k<g)
 case atStart=>exact⟨0,[],List.replicate 256 false,rfl,by omega,F3,ClT.start,by omega⟩
 case round=>
  obtain⟨k,L,B,rfl,hk1,F,S,hg⟩:=hrel;have HG:=qaa hg;clear hg F3;by_cases hk:k<256
  ·have hkb:k<bs.length:=by omega
   have hlb:(k:Int)<(bs.length:Int):=by omega
   have hk':(k:Int)<256:=by omega
   obtain⟨y,hy⟩:∃y,bs[k]=y:=⟨_,rfl⟩;have hgy:∀hk,(⟨bs.toArray⟩:ByteArray)[k]'hk=y:=fun _=>hy
   have hyl:y.toNat<256:=y.toNat_lt;obtain⟨z,hz⟩:∃z,z=y.toNat:=⟨_,rfl⟩;rw[←hz] at hyl;have f2:IntKind.i64.wrap ((y.toNat:Nat):Int)=(z:Int):=by rw[←hz];exact qak _ (by omega)
   have e:(bs.getD k 0).toNat=z:=by rw[List.getD_eq_getElem?_getD,List.getElem?_eq_getElem hkb,hy,hz];rfl
   have HOLD:Hid (gB B z=true→ClT (fun b=>(bs.getD b 0).toNat) (k+1) B L):=fun h=>S.out.old (by simp only[e];exact hyl) (by simp only[e];exact h)
   have HNEW:Hid (ClT (fun b=>(bs.getD b 0).toNat) (k+1) (B.set z true) (L++[z])):=by have:=S.out.new (by simp only[e];exact hyl);unfold Hid;simpa only[e] using this
   have hbl:=S.out.bl;have hll:=S.out.len;have c0:=HC.out wr F.out.bel;clear hy e hz;obtain⟨s0,s1⟩:=F.out.slotB (i:=0) (by simp) rfl (k:=z) (by omega);have hzi:(z:Int)<256:=by omega
   obtain⟨fl,hfl⟩:∃fl,fl=B.getD z false:=⟨_,rfl⟩;rw[←hfl] at s0;cases fl with
   |true=>
    have S2:=qaa (HOLD.out hfl.symm);clear hfl;go_wp2;go_roundg (256-(k+1)+1)
    case measure=>have:=HG.out;omega
    case rel=>exact⟨k+1,L,B,by first|rfl|go_num|(congr 1;omega),by omega,F,S2,by omega⟩
   |false=>
    have F2:=qaa (F.out.storeB (i:=0) (by simp) rfl z true);clear hfl;go_upto_region 9 with fail
    obtain⟨wq,hwq⟩:∃wq,wq=wr.setCell ⟨gb,z,none⟩ (.bool true):=⟨_,rfl⟩;rw[←hwq] at F2 ⊢;clear hwq s0 s1 c0;obtain⟨p1,p2,p3⟩:=F2.out.pre (i:=1) (by simp) rfl (z:Int);have P1:=qaa p1;have P2:=qaa p2;have P3:=qaa p3;have HPU:Hid (∀v' w6,w6.ownsRow w2.heap.size 3 1 v' (L.length+1) (qab L++[.int .i64 (z:Int)])→qbb (wq.alloc (.cells #[.int .i64 (z:Int)] 3)) w6 u4 v'→Fr w2 [(.slice (some ⟨gb,0,none⟩) 256 256,4,bC (B.set z true)),(v',3,qab (L++[z]))] w6):=fun v' w6 g1 g2=>F2.out.push (i:=1) (by simp) rfl g1 g2
    clear p1 p2 p3;go_upto_region 5 with(at_builtin;refine qac rfl (.tmp 25) (.tmp 27) 22 rfl w2.heap.size 3 i3 (.int .i64 0) 1 8 Tryz.underlying22 hi3 hz30 hz31 hz32 rfl (by decide) _ L.length _ rfl P1.out ⟨wq.heap.size,0,none⟩ 1 1 [.int .i64 (z:Int)] rfl rfl P2.out (by simp[Value.oneCell']) (by decide) (by unfold maxLen;omega) (by omega) P3.out ?_;intro v6 w6 g1 g2;have F6:=qaa (HPU.out v6 w6 g1 g2);clear g1 g2)
    go_wp2;go_roundg (256-(k+1)+1)
    case measure=>have:=HG.out;omega
    case rel=>exact⟨k+1,_,_,by first|rfl|go_num|(congr 1;omega),by omega,F6,HNEW,by omega⟩
  ·obtain rfl:k=256:=by omega
   have XW:=qaa (bt HX2.out F.out.bel (Nat.le_refl _));obtain⟨ao,cap,rfl,hn⟩:=F.out.nat (i:=1) (by simp) rfl;have HN:=qaa hn;clear hn;go_wp2;go_ret;exact⟨⟨ao,cap,L,B,rfl,HN.out,S.out⟩,XW.out⟩
end Go.Proofs.YtdgoilkgplnhfaaGreat

