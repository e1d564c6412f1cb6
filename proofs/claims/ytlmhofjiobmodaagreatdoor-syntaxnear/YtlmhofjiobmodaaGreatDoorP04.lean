/-
  The pure reader comes to an end, and goes forward. Of no program: no condition.
-/
import Derived.Test.YtlmhofjiobmodaaGreatDoorP03
import Derived.WalkLawsBesides
set_option maxRecDepth 100000
set_option maxHeartbeats 16000000
namespace Go.Proofs.YtlmhofjiobmodaaGreatDoor
def Fwd {α:Type} (n i:Nat) (r:PR α):Prop:=match r with
 |.ok _ j=>i<j∧j≤n
 |.bad _ _=>True
 |.out=>False
def Fw0 {α:Type} (n i:Nat) (r:PR α):Prop:=match r with
 |.ok _ j=>i≤j∧j≤n
 |.bad _ _=>True
 |.out=>False
theorem Fwd.bind {α β:Type} {n i:Nat} {x:PR α} {f:α→Nat→PR β} (h:Fwd n i x) (hf:∀a j,x=.ok a j→i<j→j≤n→Fw0 n j (f a j)):Fwd n i (x.bind f):=by
 cases x with
 |ok a j=>
  have h2:=hf a j rfl h.1 h.2;show Fwd n i (f a j);cases hh:f a j with
  |ok b l=>rw[hh] at h2;exact⟨Nat.lt_of_lt_of_le h.1 h2.1,h2.2⟩
  |bad e p=>trivial
  |out=>rw[hh] at h2;exact h2
 |bad e p=>trivial
 |out=>exact h
theorem Fw0.bind {α β:Type} {n i:Nat} {x:PR α} {f:α→Nat→PR β} (h:Fw0 n i x) (hf:∀a j,x=.ok a j→i≤j→j≤n→Fw0 n j (f a j)):Fw0 n i (x.bind f):=by
 cases x with
 |ok a j=>
  have h2:=hf a j rfl h.1 h.2;show Fw0 n i (f a j);cases hh:f a j with
  |ok b l=>rw[hh] at h2;exact⟨Nat.le_trans h.1 h2.1,h2.2⟩
  |bad e p=>trivial
  |out=>rw[hh] at h2;exact h2
 |bad e p=>trivial
 |out=>exact h
theorem Fwd.fw0 {α:Type} {n i:Nat} {r:PR α} (h:Fwd n i r):Fw0 n i r:=by
 cases r with
 |ok a j=>exact⟨Nat.le_of_lt h.1,h.2⟩
 |bad e p=>trivial
 |out=>exact h
theorem Fw0.fwd {α:Type} {n i j:Nat} {r:PR α} (h:Fw0 n j r) (hij:i<j):Fwd n i r:=by
 cases r with
 |ok a l=>exact⟨Nat.lt_of_lt_of_le hij h.1,h.2⟩
 |bad e p=>trivial
 |out=>exact h
theorem Fw0.le {α:Type} {n i j:Nat} {r:PR α} (h:Fw0 n j r) (hij:i≤j):Fw0 n i r:=by
 cases r with
 |ok a l=>exact⟨Nat.le_trans hij h.1,h.2⟩
 |bad e p=>trivial
 |out=>exact h
section
variable {Ts:List Tk}
theorem qmg {i:Nat} (h:(tok Ts i).k≠0):i<Ts.length:=by
 refine Nat.lt_of_not_le fun hle=>h ?_
 unfold tok;rw[List.getD_eq_getElem?_getD,List.getElem?_eq_none hle];rfl
theorem qdh {kind:Int} {text:By} {i:Nat} (hk:kind≠0) (h:isT Ts kind text i=true):i<Ts.length:=by
 unfold isT at h;simp only[Bool.and_eq_true,beq_iff_eq] at h;exact qmg (by rw[h.1];exact hk)
theorem qcc {kind:Int} (i:Nat) (hk:kind≠0):Fwd Ts.length i (qa9 Ts kind i):=by
 unfold qa9;by_cases h:(tok Ts i).k=kind
 ·rw[if_pos h]
  exact⟨Nat.lt_succ_self _,qmg (by rw[h];exact hk)⟩
 ·rw[if_neg h];trivial
theorem qbx {kind:Int} {text:By} (i:Nat) (hk:kind≠0):Fwd Ts.length i (qak Ts kind text i):=by
 unfold qak;by_cases h:isT Ts kind text i=true
 ·rw[if_pos h]
  exact⟨Nat.lt_succ_self _,qdh hk h⟩
 ·rw[if_neg h];trivial
theorem qd3 {α:Type} {n i:Nat} (a:α) (h:i≤n):Fw0 n i (.ok a i):=⟨Nat.le_refl _,h⟩
theorem qhw {kind:Int} (c:CT) (i:Nat) (hk:kind≠0):Fwd Ts.length i (qb3 Ts kind c i):=by
 refine(qcc i hk).bind fun t j _ hj hn=>?_
 by_cases h5:kind=5
 ·rw[if_pos h5];exact qd3 _ hn
 ·rw[if_neg h5]
  by_cases h4:kind=4
  ·rw[if_pos h4]
   by_cases h:isT Ts 7 [45] j=true
   ·rw[if_pos h]
    exact(((qcc (j+1) (by decide)).bind fun u l _ _ hl=>qd3 _ hl).fw0).le (Nat.le_succ _)
   ·rw[if_neg h];exact qd3 _ hn
  ·rw[if_neg h4];exact qd3 _ hn
theorem qhx {kind:Int} (hk:kind≠0):∀(f parts:Nat) (c:CT) (i:Nat),Ts.length-i<f→Fwd Ts.length i (qba Ts kind f parts c i)
 |0,_,_,_,h=>by omega
 |f+1,parts,c,i,h=>by
  unfold qba;by_cases h1:isT Ts 7 [44] i=true
  ·rw[if_pos h1]
   have hi:=qdh (by decide) h1;by_cases h2:parts=32∧(tok Ts (i+1)).k=kind
   ·rw[if_pos h2];trivial
   ·rw[if_neg h2]
    exact(Fwd.bind (qhw c (i+1) hk) fun c' j _ hj hn=>(qhx hk f (parts+1) c' j (by omega)).fw0).fw0.fwd (Nat.lt_succ_self _)
  ·rw[if_neg h1]
   exact(qbx i (by decide)).bind fun _ j _ _ hn=>qd3 _ hn
theorem qfn {kind:Int} (hk:kind≠0) (f:Nat) (c:CT) (i:Nat) (h:Ts.length-i<f):Fwd Ts.length i (qbp Ts f kind c i):=
 (qbx i (by decide)).bind fun _ j _ hj _=>((qbx j (by decide)).bind fun _ l _ hl _=>((qhw c l hk).bind fun c' m _ hm _=>(qhx hk f 1 c' m (by omega)).fw0).fw0).fw0
theorem qhy (f:Nat) (c:CT) (i:Nat) (h:Ts.length-i<f) (hi:i≤Ts.length):Fw0 Ts.length i (qa0 Ts f c i):=by
 unfold qa0;by_cases h7:c.k=7
 ·rw[if_pos h7];exact(qfn (by decide) f c i h).fw0
 rw[if_neg h7];by_cases h8:c.k=8
 ·rw[if_pos h8];exact(qfn (by decide) f c i h).fw0
 rw[if_neg h8];by_cases h9:c.k=9
 ·rw[if_pos h9];exact(qfn (by decide) f c i h).fw0
 rw[if_neg h9];by_cases h10:c.k=10
 ·rw[if_pos h10]
  exact((qbx i (by decide)).bind fun _ j _ _ _=>((qcc j (by decide)).bind fun t l _ _ hl=>qd3 _ hl).fw0).fw0
 rw[if_neg h10];by_cases h11:c.k=11
 ·rw[if_pos h11]
  exact((qcc i (by decide)).bind fun u g _ _ _=>((qbx g (by decide)).bind fun _ j _ _ _=>((qcc j (by decide)).bind fun t l _ _ hl=>qd3 _ hl).fw0).fw0).fw0
 rw[if_neg h11];by_cases h12:c.k=12
 ·rw[if_pos h12]
  exact((qcc i (by decide)).bind fun t l _ _ hl=>qd3 _ hl).fw0
 rw[if_neg h12];exact qd3 _ hi
theorem qhz {n:Nat} (c:CT) (i:Nat) (hi:i≤n):Fw0 n i (qbl c i):=by
 unfold qbl;split
 ·trivial
 ·exact qd3 _ hi
theorem qg8 {part:Nat→PR CT} {word:By} {kind:Int}:∀(f:Nat) (ks:List CT) (p:Int) (i:Nat),(∀j,i<j→j≤Ts.length→Fwd Ts.length j (part j))→Ts.length-i<f→i≤Ts.length→Fw0 Ts.length i (rowP Ts part word kind f ks p i)
 |0,_,_,_,_,h,_=>by omega
 |f+1,ks,p,i,hp,h,hi=>by
  unfold rowP;by_cases h1:isT Ts 1 word i=true
  ·rw[if_pos h1]
   have hl:=qdh (by decide) h1;by_cases h2:ks.length=32∧qe3 Ts (i+1)=true
   ·rw[if_pos h2];trivial
   ·rw[if_neg h2]
    exact(((hp (i+1) (Nat.lt_succ_self _) hl).bind fun c j _ hj hn=>qg8 f (ks++[c]) p j (fun l h1 h2=>hp l (by omega) h2) (by omega) hn).fw0).le (Nat.le_succ _)
  ·rw[if_neg h1];exact qhz _ _ hi
theorem qax:∀(f place i:Nat),place≤3→i≤Ts.length→4*(Ts.length-i)+(3-place)+2≤f→Fwd Ts.length i (qaf Ts f place i)
 |0,place,i,_,_,h=>by omega
 |f+1,0,i,_,hi,h=>by
  unfold qaf;refine(qax f 1 i (by decide) hi (by omega)).bind fun c j _ hj hn=>?_
  by_cases h1:isT Ts 1 wOr j=true
  ·rw[if_pos h1]
   exact qg8 f [c] c.p j (fun l h1 h2=>qax f 1 l (by decide) h2 (by omega)) (by omega) hn
  ·rw[if_neg h1];exact qd3 _ hn
 |f+1,1,i,_,hi,h=>by
  unfold qaf;refine(qax f 2 i (by decide) hi (by omega)).bind fun c j _ hj hn=>?_
  by_cases h1:isT Ts 1 qeq j=true
  ·rw[if_pos h1]
   exact qg8 f [c] c.p j (fun l h1 h2=>qax f 2 l (by decide) h2 (by omega)) (by omega) hn
  ·rw[if_neg h1];exact qd3 _ hn
 |f+1,2,i,_,hi,h=>by
  rw[qdg];by_cases h1:isT Ts 1 qg2 i=true
  ·rw[if_pos h1]
   have hl:=qdh (by decide) h1;exact((qax f 2 (i+1) (by decide) hl (by omega)).bind fun c j _ hj hn=>qhz _ _ hn).fw0.fwd (Nat.lt_succ_self _)
  ·rw[if_neg h1]
   exact qax f 3 i (by decide) hi (by omega)
 |f+1,3,i,_,hi,h=>by
  rw[qc7];by_cases h1:isT Ts 7 [40] i=true
  ·rw[if_pos h1]
   have hl:=qdh (by decide) h1;exact((qax f 0 (i+1) (by decide) hl (by omega)).bind fun c j _ hj hn=>((qbx j (by decide)).bind fun _ l _ _ hl=>qd3 _ hl).fw0).fw0.fwd (Nat.lt_succ_self _)
  ·rw[if_neg h1]
   by_cases h2:(tok Ts i).k=2
   ·rw[if_pos h2]
    exact⟨Nat.lt_succ_self _,qmg (by rw[h2];decide)⟩
   ·rw[if_neg h2]
    by_cases h3:qbd Ts i=0
    ·rw[if_pos h3];trivial
    ·rw[if_neg h3]
     have hl:i<Ts.length:=by
      refine Nat.lt_of_not_le fun hle=>h3 ?_
      have e:∀t,isT Ts 1 t i=false:=fun t=>by
       cases hh:isT Ts 1 t i with
       |false=>rfl
       |true=>exact absurd (qdh (by decide) hh) (Nat.not_lt.2 hle)
      have:∀n k,qbu Ts qeu i n k=0:=fun n=>by
       induction n with
       |zero=>intro k;rfl
       |succ n ih=>intro k;unfold qbu;rw[e,ih];rfl
      exact this _ _
     exact(qhy f _ (i+1) (by omega) hl).fwd (Nat.lt_succ_self _)
 |f+1,n+4,i,h,_,_=>by omega
theorem qfo (f kind i:Nat) (hf:4*Ts.length+5≤f):Fwd Ts.length i (qdx Ts f kind i):=by
 refine(qcc i (by decide)).bind fun t j _ _ _=>((qcc j (by decide)).bind fun u l _ _ _=>Fw0.bind (i:=l) ?_ fun _ m _ _ hm=>((qax f 0 m (by decide) hm (by omega)).bind fun c n _ _ _=>((qbx n (by decide)).bind fun _ o _ _ ho=>qd3 _ ho).fw0).fw0).fw0
 split
 ·exact(qbx l (by decide)).fw0
 ·exact(qbx l (by decide)).fw0
theorem qj6:∀(f:Nat) (L:List IT) (i:Nat),(Ts.length-i)+4*Ts.length+6≤f→i≤Ts.length→Fw0 Ts.length i (qg7 Ts f L i)
 |0,_,_,h,_=>by omega
 |f+1,L,i,h,hi=>by
  unfold qg7;by_cases h8:(tok Ts i).k=8
  ·rw[if_pos h8];exact qd3 _ hi
  ·rw[if_neg h8]
   by_cases h0:qas Ts i=0
   ·rw[if_pos h0];trivial
   ·rw[if_neg h0]
    by_cases h1:L.length=100
    ·rw[if_pos h1];trivial
    ·rw[if_neg h1]
     exact((qfo f (qas Ts i) i (by omega)).bind fun x j _ hj hn=>qj6 f (L++[x]) j (by omega) hn).fw0
end
def qfp (Ts:List Tk):PR (List IT):=qg7 Ts (5*Ts.length+6) [] 0
end Go.Proofs.YtlmhofjiobmodaaGreatDoor
namespace Go.Proofs.YtlmhofjiobmodaaGreatDoor
open Go.RowKit Go.Lib
structure RdA (w:World) (base rp g cap:Nat) (Ts:List Tk) (i:Nat):Prop where
 blk:w.heap[rp]? =some (.cells #[.slice (some ⟨g,0,none⟩) Ts.length cap,.int .i64 (i:Nat)] 73 (0,0))
 row:w.ownsRow base 49 6 (.slice (some ⟨g,0,none⟩) Ts.length cap) Ts.length (tkC Ts)
 lt:i<Ts.length
 few:Ts.length≤1048576
 endk:(tok Ts (Ts.length-1)).k=8
theorem RdA.below {w w':World} {base rp g cap:Nat} {Ts:List Tk} {i:Nat} (h:RdA w base rp g cap Ts i) (x:Below w.heap.size w w'):RdA w' base rp g cap Ts i:=
 ⟨(x.block rp (Yd h.blk)).trans h.blk,own_below h.row x,h.lt,h.few,h.endk⟩
theorem RdA.next {w:World} {base rp g cap:Nat} {Ts:List Tk} {i:Nat} (h:RdA w base rp g cap Ts i) (hk:(tok Ts i).k≠8):i+1<Ts.length:=by
 have:=h.lt;rcases Nat.lt_or_ge (i+1) Ts.length with h1|h1
 ·exact h1
 ·have e:i=Ts.length-1:=by omega
  rw[e] at hk;exact absurd h.endk hk
theorem qiz (L:List Tk) (i r:Nat) (hi:i<L.length) (hr:r<6):(tkC L)[i*6+r]? =(tkV (tok L i)).toList[r]? :=by
 induction L generalizing i with
 |nil=>simp at hi
 |cons x L ih=>
  have e:tkC (x::L)=(tkV x).toList++tkC L:=by simp[tkC]
  have e6:(tkV x).toList.length=6:=rfl;rw[e];cases i with
  |zero=>
   rw[List.getElem?_append_left (by omega)];simp[tok]
  |succ i=>
   rw[List.getElem?_append_right (by omega),e6,show(i+1)*6+r-6=i*6+r by omega,ih i (by simpa using hi)];rfl
theorem RdA.cells {w:World} {base rp g cap:Nat} {Ts:List Tk} {i:Nat} (h:RdA w base rp g cap Ts i):w.cell? ⟨g,i*6,none⟩=some (.int .i64 (tok Ts i).k)∧w.cell? ⟨g,i*6+1,none⟩=some (.string ⟨(tok Ts i).t.toArray⟩)∧w.cell? ⟨g,i*6+2,none⟩=some (.int .i64 (tok Ts i).n)∧w.cell? ⟨g,i*6+3,none⟩=some (.int .i64 (tok Ts i).a)∧w.cell? ⟨g,i*6+4,none⟩=some (.int .i64 (tok Ts i).b)∧w.cell? ⟨g,i*6+5,none⟩=some (.int .i64 (tok Ts i).p):=by
 have hc:∀r,r<6→w.cell? ⟨g,i*6+r,none⟩=(tkV (tok Ts i)).toList[r]? :=fun r hr=>by
  have:=h.lt;rw[World.ownsRow.cellAt h.row (i*6+r) (by omega),qiz Ts i r h.lt hr]
 exact⟨hc 0 (by omega),hc 1 (by omega),hc 2 (by omega),hc 3 (by omega),hc 4 (by omega),hc 5 (by omega)⟩
theorem RdA.two {w:World} {base rp g cap:Nat} {Ts:List Tk} {i:Nat} (h:RdA w base rp g cap Ts i):w.cell? ⟨rp,0,none⟩=some (.slice (some ⟨g,0,none⟩) Ts.length cap)∧w.cell? ⟨rp,1,none⟩=some (.int .i64 (i:Nat)):=
 ⟨by rw[Ye _ _ _ _ _ _ h.blk];rfl,by rw[Ye _ _ _ _ _ _ h.blk];rfl⟩
theorem RdA.step {w:World} {base rp g cap:Nat} {Ts:List Tk} {i:Nat} (h:RdA w base rp g cap Ts i) (hn:i+1<Ts.length):RdA (w.setCell ⟨rp,1,none⟩ (.int .i64 ((i:Int)+1))) base rp g cap Ts (i+1):=by
 refine⟨?_,qai h.row (Kept.setCell (F:=fun k=>k=rp) (p:=⟨rp,1,none⟩) (Kept.refl _ _) rfl _) (fun k h3 h4=>?_),hn,h.few,h.endk⟩
 ·have:=qab h.blk 1 (.int .i64 ((i:Int)+1))
  simpa using this
 ·subst h4
  obtain⟨cs,h5⟩:=qaw h.row k h3;rw[h.blk] at h5;simp at h5
theorem st6 {W:World} {P:Nat} {t:TypeId} {x0 x1 x2 x3 x4 x5:Value} (h:W.heap[P]? =some (.cells #[x0,x1,x2,x3,x4,x5] t (0,0))) (a b c d e f:Value):
 (∃u,W.cell? ⟨P,0,none⟩=some u)∧W.frozen? ⟨P,0,none⟩=false∧(∃u,(W.setCell ⟨P,0,none⟩ a).cell? ⟨P,1,none⟩=some u)∧(W.setCell ⟨P,0,none⟩ a).frozen? ⟨P,1,none⟩=false∧(∃u,((W.setCell ⟨P,0,none⟩ a).setCell ⟨P,1,none⟩ b).cell? ⟨P,2,none⟩=some u)∧((W.setCell ⟨P,0,none⟩ a).setCell ⟨P,1,none⟩ b).frozen? ⟨P,2,none⟩=false∧(∃u,(((W.setCell ⟨P,0,none⟩ a).setCell ⟨P,1,none⟩ b).setCell ⟨P,2,none⟩ c).cell? ⟨P,3,none⟩=some u)∧(((W.setCell ⟨P,0,none⟩ a).setCell ⟨P,1,none⟩ b).setCell ⟨P,2,none⟩ c).frozen? ⟨P,3,none⟩=false∧(∃u,((((W.setCell ⟨P,0,none⟩ a).setCell ⟨P,1,none⟩ b).setCell ⟨P,2,none⟩ c).setCell ⟨P,3,none⟩ d).cell? ⟨P,4,none⟩=some u)∧((((W.setCell ⟨P,0,none⟩ a).setCell ⟨P,1,none⟩ b).setCell ⟨P,2,none⟩ c).setCell ⟨P,3,none⟩ d).frozen? ⟨P,4,none⟩=false∧(∃u,(((((W.setCell ⟨P,0,none⟩ a).setCell ⟨P,1,none⟩ b).setCell ⟨P,2,none⟩ c).setCell ⟨P,3,none⟩ d).setCell ⟨P,4,none⟩ e).cell? ⟨P,5,none⟩=some u)∧(((((W.setCell ⟨P,0,none⟩ a).setCell ⟨P,1,none⟩ b).setCell ⟨P,2,none⟩ c).setCell ⟨P,3,none⟩ d).setCell ⟨P,4,none⟩ e).frozen? ⟨P,5,none⟩=false∧((((((W.setCell ⟨P,0,none⟩ a).setCell ⟨P,1,none⟩ b).setCell ⟨P,2,none⟩ c).setCell ⟨P,3,none⟩ d).setCell ⟨P,4,none⟩ e).setCell ⟨P,5,none⟩ f).heap[P]? =some (.cells #[a,b,c,d,e,f] t (0,0))∧Kept (fun k=>k=P) W ((((((W.setCell ⟨P,0,none⟩ a).setCell ⟨P,1,none⟩ b).setCell ⟨P,2,none⟩ c).setCell ⟨P,3,none⟩ d).setCell ⟨P,4,none⟩ e).setCell ⟨P,5,none⟩ f):=by
 have h0:(W.setCell ⟨P,0,none⟩ a).heap[P]? =some (.cells #[a,x1,x2,x3,x4,x5] t (0,0)):=by
  have:=qab h 0 a;simpa using this
 have h1:((W.setCell ⟨P,0,none⟩ a).setCell ⟨P,1,none⟩ b).heap[P]? =some (.cells #[a,b,x2,x3,x4,x5] t (0,0)):=by
  have:=qab h0 1 b;simpa using this
 have h2:(((W.setCell ⟨P,0,none⟩ a).setCell ⟨P,1,none⟩ b).setCell ⟨P,2,none⟩ c).heap[P]? =some (.cells #[a,b,c,x3,x4,x5] t (0,0)):=by
  have:=qab h1 2 c;simpa using this
 have h3:((((W.setCell ⟨P,0,none⟩ a).setCell ⟨P,1,none⟩ b).setCell ⟨P,2,none⟩ c).setCell ⟨P,3,none⟩ d).heap[P]? =some (.cells #[a,b,c,d,x4,x5] t (0,0)):=by
  have:=qab h2 3 d;simpa using this
 have h4:(((((W.setCell ⟨P,0,none⟩ a).setCell ⟨P,1,none⟩ b).setCell ⟨P,2,none⟩ c).setCell ⟨P,3,none⟩ d).setCell ⟨P,4,none⟩ e).heap[P]? =some (.cells #[a,b,c,d,e,x5] t (0,0)):=by
  have:=qab h3 4 e;simpa using this
 have h5:((((((W.setCell ⟨P,0,none⟩ a).setCell ⟨P,1,none⟩ b).setCell ⟨P,2,none⟩ c).setCell ⟨P,3,none⟩ d).setCell ⟨P,4,none⟩ e).setCell ⟨P,5,none⟩ f).heap[P]? =some (.cells #[a,b,c,d,e,f] t (0,0)):=by
  have:=qab h4 5 f;simpa using this
 have ks:∀(V:World) (j:Nat) (u:Value),Kept (fun k=>k=P) V (V.setCell ⟨P,j,none⟩ u):=fun V j u=>Kept.setCell (F:=fun k=>k=P) (p:=⟨P,j,none⟩) (Kept.refl _ _) rfl u
 refine⟨⟨_,by rw[Ye _ _ _ _ _ _ h];rfl⟩,Yf _ _ _ _ _ h,⟨_,by rw[Ye _ _ _ _ _ _ h0];rfl⟩,Yf _ _ _ _ _ h0,⟨_,by rw[Ye _ _ _ _ _ _ h1];rfl⟩,Yf _ _ _ _ _ h1,⟨_,by rw[Ye _ _ _ _ _ _ h2];rfl⟩,Yf _ _ _ _ _ h2,⟨_,by rw[Ye _ _ _ _ _ _ h3];rfl⟩,Yf _ _ _ _ _ h3,⟨_,by rw[Ye _ _ _ _ _ _ h4];rfl⟩,Yf _ _ _ _ _ h4,h5,(((((ks _ _ _).trans (ks _ _ _)).trans (ks _ _ _)).trans (ks _ _ _)).trans (ks _ _ _)).trans (ks _ _ _)⟩
def pan (e p:Int):Ending:=.panicked [{ v:=.iface 70 (.agg #[.int .i64 e,.int .i64 p]),recovered:=false }]
theorem qcd {w:World} {base rp g cap:Nat} {Ts:List Tk} {i:Nat} (h:RdA w base rp g cap Ts i):Calls Tryz.prog 50 #[.pointer (some ⟨rp,0,none⟩)] w fun e w'=>e=.returned (.agg (tkV (tok Ts i)))∧Below w.heap.size w w':=by
 have XW:=qaa (show Below w.heap.size w (w.alloc (.cells #[.int .i64 0,.string ⟨#[]⟩,.int .i64 0,.int .i64 0,.int .i64 0,.int .i64 0] 49)) from al Yj _);have hlt:(i:Int)<Ts.length:=by have:=h.lt;omega
 have HQ:Hid (∀V,Below (w.heap.size+1) (w.alloc (.cells #[.int .i64 0,.string ⟨#[]⟩,.int .i64 0,.int .i64 0,.int .i64 0,.int .i64 0] 49)) V→(V.cell? ⟨rp,0,none⟩=some (.slice (some ⟨g,0,none⟩) Ts.length cap)∧V.cell? ⟨rp,1,none⟩=some (.int .i64 (i:Nat)))∧V.cell? ⟨g,i*6,none⟩=some (.int .i64 (tok Ts i).k)∧V.cell? ⟨g,i*6+1,none⟩=some (.string ⟨(tok Ts i).t.toArray⟩)∧V.cell? ⟨g,i*6+2,none⟩=some (.int .i64 (tok Ts i).n)∧V.cell? ⟨g,i*6+3,none⟩=some (.int .i64 (tok Ts i).a)∧V.cell? ⟨g,i*6+4,none⟩=some (.int .i64 (tok Ts i).b)∧V.cell? ⟨g,i*6+5,none⟩=some (.int .i64 (tok Ts i).p)):=fun V y=>by
  have h1:=(h.below XW.out).below (by simpa using y);exact⟨h1.two,h1.cells⟩
 clear h;unfold tkV;generalize tok Ts i=z at *;go_enter Tryz.func50,Tryz.ntmps50;go_upto_region 1 with fail
 refine qam (S:=fun V=>Below (w.heap.size+1) (w.alloc (.cells #[.int .i64 0,.string ⟨#[]⟩,.int .i64 0,.int .i64 0,.int .i64 0,.int .i64 0] 49)) V) 10 (by kernel_rfl) ?_;have Bb:Hid (Below (w.heap.size+1) (w.alloc (.cells #[.int .i64 0,.string ⟨#[]⟩,.int .i64 0,.int .i64 0,.int .i64 0,.int .i64 0] 49)) (w.alloc (.cells #[.int .i64 0,.string ⟨#[]⟩,.int .i64 0,.int .i64 0,.int .i64 0,.int .i64 0] 49)).drew):=Yj.drew;refine qac.tk 0 rfl 3 Bb.out (fun a b=>by obtain⟨⟨_,_⟩,_,_,_,_,_,_⟩:=HQ.out a b;go_simp;first|done|rfl) ?_
 try simp only[Act.put,Ya,Yb,Yc]
 refine qac.tk 1 rfl 4 Bb.out (fun a b=>by obtain⟨⟨_,_⟩,_,_,_,_,_,_⟩:=HQ.out a b;go_simp;first|done|rfl) ?_
 try simp only[Act.put,Ya,Yb,Yc]
 refine qac.tk 2 rfl 5 Bb.out (fun a b=>by obtain⟨⟨_,_⟩,_,_,_,_,_,_⟩:=HQ.out a b;go_simp;first|done|rfl) ?_
 try simp only[Act.put,Ya,Yb,Yc]
 refine qac.tk 3 rfl 6 Bb.out (fun a b=>by obtain⟨⟨_,_⟩,_,_,_,_,_,_⟩:=HQ.out a b;go_simp;first|done|rfl) ?_
 try simp only[Act.put,Ya,Yb,Yc]
 refine qac.tk 4 rfl 7 Bb.out (fun a b=>by obtain⟨⟨_,_⟩,_,_,_,_,_,_⟩:=HQ.out a b;go_simp;first|done|rfl) ?_
 try simp only[Act.put,Ya,Yb,Yc]
 refine qac.tk 5 rfl 8 Bb.out (fun a b=>by obtain⟨⟨_,_⟩,_,_,_,_,_,_⟩:=HQ.out a b;go_simp;first|done|rfl) ?_
 try simp only[Act.put,Ya,Yb,Yc]
 refine qac.tk 6 rfl 9 Bb.out (fun a b=>by obtain⟨⟨_,_⟩,_,_,_,_,_,_⟩:=HQ.out a b;go_simp;first|done|rfl) ?_
 try simp only[Act.put,Ya,Yb,Yc]
 refine qac.tk 7 rfl 10 Bb.out (fun a b=>by obtain⟨⟨_,_⟩,_,_,_,_,_,_⟩:=HQ.out a b;go_simp;first|done|rfl) ?_
 try simp only[Act.put,Ya,Yb,Yc]
 refine qac.tk 8 rfl 11 Bb.out (fun a b=>by obtain⟨⟨_,_⟩,_,_,_,_,_,_⟩:=HQ.out a b;go_simp;first|done|rfl) ?_
 try simp only[Act.put,Ya,Yb,Yc]
 refine qac.tk 9 rfl 12 Bb.out (fun a b=>by obtain⟨⟨_,_⟩,_,_,_,_,_,_⟩:=HQ.out a b;go_simp;first|done|rfl) ?_
 try simp only[Act.put,Ya,Yb,Yc]
 refine qac.lst rfl fun K hK=>?_
 go_simp;refine hK _ _ ?_;clear hK K;go_wp2;refine Yg (by simp[results,Tryz.results50,go_sem];try rfl) rfl ?_;exact⟨rfl,(al Yj _).drew⟩
theorem qtp (a b:By):((⟨a.toArray⟩:ByteArray)==⟨b.toArray⟩)=(a==b):=by
 show(a.toArray==b.toArray)=(a==b);simp
theorem qfd {w:World} {base rp g cap:Nat} {Ts:List Tk} {i:Nat} (h:RdA w base rp g cap Ts i) (kind:Int) (text:By):Calls Tryz.prog 114 #[.pointer (some ⟨rp,0,none⟩),.int .i64 kind,.string ⟨text.toArray⟩] w fun e w'=>e=.returned (.bool (isT Ts kind text i))∧Below w.heap.size w w':=by
 have HT:=qaa (qcd h);have HIS:Hid (isT Ts kind text i=((tok Ts i).k==kind&&(tok Ts i).t==text)):=rfl;unfold tkV at HT;generalize tok Ts i=z at *;cases hk:(z.k==kind) with
 |false=>
  have hk2:¬z.k=kind:=by simpa using hk
  go_enter Tryz.func114,Tryz.ntmps114;go_wp2_with (go_at_call 50;refine HT.out.mono ?_;rintro e w1 ⟨rfl,x1⟩;have X1:=qaa x1;clear x1);go_ret;exact⟨by rw[HIS.out,hk];rfl,al X1.out _⟩
 |true=>
  have hk2:z.k=kind:=by simpa using hk
  go_enter Tryz.func114,Tryz.ntmps114;go_wp2_with (go_at_call 50;refine HT.out.mono ?_;rintro e w1 ⟨rfl,x1⟩;have X1:=qaa x1;clear x1);go_ret;exact⟨by rw[HIS.out,hk];simp,al X1.out _⟩
theorem qtq (x0 x1 x2 x3 x4 x5:Value) (w:World):(Instr.field 49 (.agg #[x0,x1,x2,x3,x4,x5]) 0).run Tryz.prog w=.ok x0 w:=by kernel_rfl
theorem qmh (x0 x1 x2 x3 x4 x5:Value) (w:World):(Instr.field 49 (.agg #[x0,x1,x2,x3,x4,x5]) 1).run Tryz.prog w=.ok x1 w:=by kernel_rfl
theorem fld2 (x0 x1 x2 x3 x4 x5:Value) (w:World):(Instr.field 49 (.agg #[x0,x1,x2,x3,x4,x5]) 2).run Tryz.prog w=.ok x2 w:=by kernel_rfl
theorem qsh (x0 x1 x2 x3 x4 x5:Value) (w:World):(Instr.field 49 (.agg #[x0,x1,x2,x3,x4,x5]) 4).run Tryz.prog w=.ok x5 w:=by kernel_rfl
theorem qb6 {w:World} {base rp g cap:Nat} {Ts:List Tk} {i:Nat} (h:RdA w base rp g cap Ts i) (text:By):Calls Tryz.prog 72 #[.pointer (some ⟨rp,0,none⟩),.string ⟨text.toArray⟩] w fun e w'=>e=.returned (.bool (isT Ts 1 text i))∧Below w.heap.size w w':=by
 have HT:=qaa (qfd h 1 text);go_enter Tryz.func72,Tryz.ntmps72;go_wp2_with (go_at_call 114;refine HT.out.mono ?_;rintro e w1 ⟨rfl,x1⟩;have X1:=qaa x1;clear x1);go_ret;exact⟨rfl,X1.out⟩
theorem qc0 {w:World} {base rp g cap:Nat} {Ts:List Tk} {i:Nat} (h:RdA w base rp g cap Ts i) (text:By):Calls Tryz.prog 143 #[.pointer (some ⟨rp,0,none⟩),.string ⟨text.toArray⟩] w fun e w'=>e=.returned (.bool (isT Ts 7 text i))∧Below w.heap.size w w':=by
 have HT:=qaa (qfd h 7 text);go_enter Tryz.func143,Tryz.ntmps143;go_wp2_with (go_at_call 114;refine HT.out.mono ?_;rintro e w1 ⟨rfl,x1⟩;have X1:=qaa x1;clear x1);go_ret;exact⟨rfl,X1.out⟩
theorem qb7 {w:World} {base rp g cap:Nat} {Ts:List Tk} {i:Nat} (h:RdA w base rp g cap Ts i) (c:Int):Calls Tryz.prog 52 #[.pointer (some ⟨rp,0,none⟩),.int .i64 c] w fun e w'=>e=pan c (tok Ts i).p∧Below w.heap.size w w':=by
 have HT:=qaa (qcd h);unfold tkV at HT;generalize tok Ts i=z at *;have hf:=qsh;go_enter Tryz.func52,Tryz.ntmps52;go_wp2_with (go_at_call 50;refine HT.out.mono ?_;rintro e w1 ⟨rfl,x1⟩;have X1:=qaa x1;clear x1);exact⟨rfl,rfl,X1.out⟩
theorem qbk {w:World} {base rp g cap:Nat} {Ts:List Tk} {i:Nat} (h:RdA w base rp g cap Ts i) {kind:Int} (hk:(tok Ts i).k=kind) (h8:kind≠8):Calls Tryz.prog 74 #[.pointer (some ⟨rp,0,none⟩),.int .i64 kind] w fun e w'=>e=.returned (.agg (tkV (tok Ts i)))∧RdA w' base rp g cap Ts (i+1)∧Kept (fun k=>k=rp) w w':=by
 have hn:i+1<Ts.length:=h.next (by rw[hk];exact h8);have X0:=qaa (show Below w.heap.size w (w.alloc (.cells #[.int .i64 0,.string ⟨#[]⟩,.int .i64 0,.int .i64 0,.int .i64 0,.int .i64 0] 49)) from al Yj _);have R0:=qaa (h.below X0.out);have HT:=qaa (qcd R0.out);have HL:=qaa h.few;have HN:=qaa hn;have Bc:Hid (g<w.heap.size):=(World.ownsRow.lt h.row g rfl).2;unfold tkV at HT ⊢;generalize tok Ts i=z at *;clear h hn;have fw:IntKind.i64.wrap ((i:Int)+1)=(i:Int)+1:=by have:=HL.out;have:=HN.out;simp[IntKind.wrap,IntKind.bits,IntKind.signed];omega
 have hkk:(z.k==kind)=true:=by simpa using hk
 go_enter Tryz.func74,Tryz.ntmps74;go_upto_region 4 with(go_at_call 50;refine HT.out.mono ?_;rintro e w1 ⟨rfl,x1⟩;have X1:=qaa x1;clear x1)
 rw[←hk];have Y1:Hid (Below w1.heap.size w1 (w1.alloc (.cells #[.int .i64 z.k,.string ⟨z.t.toArray⟩,.int .i64 z.n,.int .i64 z.a,.int .i64 z.b,.int .i64 z.p] 49))):=al Yj _;have R1:=qaa ((R0.out.below X1.out).below Y1.out);have P1:=qaa (Yh w1 (.cells #[.int .i64 z.k,.string ⟨z.t.toArray⟩,.int .i64 z.n,.int .i64 z.a,.int .i64 z.b,.int .i64 z.p] 49));have P0:=qaa ((Y1.out.block w.heap.size (Yd ((X1.out.block w.heap.size (Yd (Yh w (.cells #[.int .i64 0,.string ⟨#[]⟩,.int .i64 0,.int .i64 0,.int .i64 0,.int .i64 0] 49)))).trans (Yh w (.cells #[.int .i64 0,.string ⟨#[]⟩,.int .i64 0,.int .i64 0,.int .i64 0,.int .i64 0] 49))))).trans ((X1.out.block w.heap.size (Yd (Yh w (.cells #[.int .i64 0,.string ⟨#[]⟩,.int .i64 0,.int .i64 0,.int .i64 0,.int .i64 0] 49)))).trans (Yh w (.cells #[.int .i64 0,.string ⟨#[]⟩,.int .i64 0,.int .i64 0,.int .i64 0,.int .i64 0] 49))));have K1:Hid (Kept (fun k=>k=rp) w (w1.alloc (.cells #[.int .i64 z.k,.string ⟨z.t.toArray⟩,.int .i64 z.n,.int .i64 z.a,.int .i64 z.b,.int .i64 z.p] 49))):=Kept.of_below (bt (bt X0.out X1.out Yi) Y1.out Yi);have hw1:w.heap.size<w1.heap.size:=by have:=X1.out.size;simp at this;omega
 obtain⟨q1,hq1⟩:∃q,q=w1.heap.size:=⟨_,rfl⟩;rw[←hq1] at P1 hw1;rw[←hq1];clear hq1 X1 Y1 HT X0 R0;generalize w1.alloc (.cells #[.int .i64 z.k,.string ⟨z.t.toArray⟩,.int .i64 z.n,.int .i64 z.a,.int .i64 z.b,.int .i64 z.p] 49)=w2 at *;obtain⟨_,c1⟩:=R1.out.two;have f1:=Yf w2 rp 1 _ _ R1.out.blk;have n0:¬w.heap.size=rp:=fun e=>by have h1:=P0.out;rw[e,R1.out.blk] at h1;simp at h1
 have n1:¬q1=rp:=fun e=>by have h1:=P1.out;rw[e,R1.out.blk] at h1;simp at h1
 go_upto_region 5 with fail
 clear c1 f1;have R3:=qaa (R1.out.step HN.out);have KS:Hid (Kept (fun k=>k=rp) w2 (w2.setCell ⟨rp,1,none⟩ (.int .i64 ((i:Int)+1)))):=Kept.setCell (F:=fun k=>k=rp) (p:=⟨rp,1,none⟩) (Kept.refl _ _) rfl _;have P03:=qaa ((KS.out.block w.heap.size (Yd P0.out) n0).trans P0.out);have P13:=qaa ((KS.out.block q1 (Yd P1.out) n1).trans P1.out);have K3:=qaa (K1.out.trans KS.out);clear R1 P0 P1 K1 KS;generalize w2.setCell ⟨rp,1,none⟩ (.int .i64 ((i:Int)+1))=w3 at *;obtain⟨⟨u0,e0⟩,f0,⟨u1,e1⟩,f1,⟨u2,e2⟩,f2,⟨u3,e3⟩,f3,⟨u4,e4⟩,f4,⟨u5,e5⟩,f5,b9,k9⟩:=st6 P03.out (.int .i64 z.k) (.string ⟨z.t.toArray⟩) (.int .i64 z.n) (.int .i64 z.a) (.int .i64 z.b) (.int .i64 z.p);have B9:=qaa b9;have K9:=qaa k9;clear b9 k9;have g0:w3.cell? ⟨q1,0,none⟩=some (.int .i64 z.k):=by rw[Ye _ _ _ _ _ _ P13.out];rfl
 have g1:w3.cell? ⟨q1,1,none⟩=some (.string ⟨z.t.toArray⟩):=by rw[Ye _ _ _ _ _ _ P13.out];rfl
 have g2:w3.cell? ⟨q1,2,none⟩=some (.int .i64 z.n):=by rw[Ye _ _ _ _ _ _ P13.out];rfl
 have g3:w3.cell? ⟨q1,3,none⟩=some (.int .i64 z.a):=by rw[Ye _ _ _ _ _ _ P13.out];rfl
 have g4:w3.cell? ⟨q1,4,none⟩=some (.int .i64 z.b):=by rw[Ye _ _ _ _ _ _ P13.out];rfl
 have g5:w3.cell? ⟨q1,5,none⟩=some (.int .i64 z.p):=by rw[Ye _ _ _ _ _ _ P13.out];rfl
 have KN:Hid (Kept (fun k=>k=rp) w w3):=K3.out;have HW0:Hid (w.heap.size≤w.heap.size):=Nat.le_refl _;clear hk hkk;go_wp2;clear e0 f0 e1 f1 e2 f2 e3 f3 e4 f4 e5 f5 g0 g1 g2 g3 g4 g5;generalize ((((((w3.setCell ⟨w.heap.size,0,none⟩ (.int .i64 z.k)).setCell ⟨w.heap.size,1,none⟩ (.string ⟨z.t.toArray⟩)).setCell ⟨w.heap.size,2,none⟩ (.int .i64 z.n)).setCell ⟨w.heap.size,3,none⟩ (.int .i64 z.a)).setCell ⟨w.heap.size,4,none⟩ (.int .i64 z.b)).setCell ⟨w.heap.size,5,none⟩ (.int .i64 z.p))=w9 at *;have r0:w9.cell? ⟨w.heap.size,0,none⟩=some (.int .i64 z.k):=by rw[Ye _ _ _ _ _ _ B9.out];rfl
 have r1:w9.cell? ⟨w.heap.size,1,none⟩=some (.string ⟨z.t.toArray⟩):=by rw[Ye _ _ _ _ _ _ B9.out];rfl
 have r2:w9.cell? ⟨w.heap.size,2,none⟩=some (.int .i64 z.n):=by rw[Ye _ _ _ _ _ _ B9.out];rfl
 have r3:w9.cell? ⟨w.heap.size,3,none⟩=some (.int .i64 z.a):=by rw[Ye _ _ _ _ _ _ B9.out];rfl
 have r4:w9.cell? ⟨w.heap.size,4,none⟩=some (.int .i64 z.b):=by rw[Ye _ _ _ _ _ _ B9.out];rfl
 have r5:w9.cell? ⟨w.heap.size,5,none⟩=some (.int .i64 z.p):=by rw[Ye _ _ _ _ _ _ B9.out];rfl
 refine Yg (by simp[results,Tryz.results74,go_sem,r0,r1,r2,r3,r4,r5];try rfl) rfl ?_;refine⟨rfl,⟨(K9.out.block rp (Yd R3.out.blk) (fun e=>n0 e.symm)).trans R3.out.blk,qai R3.out.row K9.out (fun k h3 h4=>?_),R3.out.lt,R3.out.few,R3.out.endk⟩,Kept.trans_new KN.out K9.out (fun k h1 h2=>absurd h1 (by omega))⟩;cases h3;exact absurd h4 (Nat.ne_of_lt Bc.out)
theorem qbr {w:World} {base rp g cap:Nat} {Ts:List Tk} {i:Nat} (h:RdA w base rp g cap Ts i) {kind:Int} (hk:¬(tok Ts i).k=kind):Calls Tryz.prog 74 #[.pointer (some ⟨rp,0,none⟩),.int .i64 kind] w fun e w'=>e=pan 90 (tok Ts i).p∧Below w.heap.size w w':=by
 have X0:=qaa (show Below w.heap.size w (w.alloc (.cells #[.int .i64 0,.string ⟨#[]⟩,.int .i64 0,.int .i64 0,.int .i64 0,.int .i64 0] 49)) from al Yj _);have R0:=qaa (h.below X0.out);have HT:=qaa (qcd R0.out);have E8:=qaa (fun V (x:Below w.heap.size w V)=>qb7 (h.below x) 90);unfold tkV at HT;generalize tok Ts i=z at *;clear h;have hkk:(z.k==kind)=false:=by simpa using hk
 go_enter Tryz.func74,Tryz.ntmps74;go_upto_region 3 with(go_at_call 50;refine HT.out.mono ?_;rintro e w1 ⟨rfl,x1⟩;have X1:=qaa x1;clear x1)
 have X2:=qaa (al (bt X0.out X1.out Yi) (.cells #[.int .i64 z.k,.string ⟨z.t.toArray⟩,.int .i64 z.n,.int .i64 z.a,.int .i64 z.b,.int .i64 z.p] 49));go_wp2_with (go_at_call 52;refine(E8.out _ X2.out).mono ?_;rintro e w3 ⟨he,x3⟩;unfold pan at he;subst he;have X3:=qaa (bt X2.out x3 Yi);clear x3);exact⟨rfl,rfl,X3.out⟩
theorem qj7 {w:World} {base rp g cap:Nat} {Ts:List Tk} {i:Nat} (h:RdA w base rp g cap Ts i) {kind:Int} {text:By} (ht:isT Ts kind text i=true) (h8:kind≠8):Calls Tryz.prog 115 #[.pointer (some ⟨rp,0,none⟩),.int .i64 kind,.string ⟨text.toArray⟩] w fun e w'=>e=.returned (.tuple #[])∧RdA w' base rp g cap Ts (i+1)∧Kept (fun k=>k=rp) w w':=by
 have hk:(tok Ts i).k=kind:=by
  unfold isT at ht;simp only[Bool.and_eq_true,beq_iff_eq] at ht;exact ht.1
 have hn:i+1<Ts.length:=h.next (by rw[hk];exact h8);have HT:=qaa (qfd h kind text);rw[ht] at HT;have HL:=qaa h.few;have HN:=qaa hn;have HR:=qaa h;clear h hn hk ht;have fw:IntKind.i64.wrap ((i:Int)+1)=(i:Int)+1:=by have:=HL.out;have:=HN.out;simp[IntKind.wrap,IntKind.bits,IntKind.signed];omega
 go_enter Tryz.func115,Tryz.ntmps115;go_upto_region 2 with(go_at_call 114;refine HT.out.mono ?_;rintro e w1 ⟨rfl,x1⟩;have X1:=qaa x1;clear x1)
 have R1:=qaa (HR.out.below X1.out);obtain⟨_,c1⟩:=R1.out.two;have f1:=Yf w1 rp 1 _ _ R1.out.blk;go_wp2;go_end0;exact⟨rfl,R1.out.step HN.out,(Kept.of_below X1.out).trans (Kept.setCell (F:=fun k=>k=rp) (p:=⟨rp,1,none⟩) (Kept.refl _ _) rfl _)⟩
theorem qh0 {w:World} {base rp g cap:Nat} {Ts:List Tk} {i:Nat} (h:RdA w base rp g cap Ts i) {kind:Int} {text:By} (ht:¬isT Ts kind text i=true):Calls Tryz.prog 115 #[.pointer (some ⟨rp,0,none⟩),.int .i64 kind,.string ⟨text.toArray⟩] w fun e w'=>e=pan 90 (tok Ts i).p∧Below w.heap.size w w':=by
 have HT:=qaa (qfd h kind text);rw[show isT Ts kind text i=false by simpa using ht] at HT;have E8:=qaa (fun V (x:Below w.heap.size w V)=>qb7 (h.below x) 90);clear h ht;go_enter Tryz.func115,Tryz.ntmps115;go_wp2_with (first
  |(go_at_call 114;refine HT.out.mono ?_;rintro e w1 ⟨rfl,x1⟩;have X1:=qaa x1;clear x1)
  |(go_at_call 52;refine(E8.out _ X1.out).mono ?_;rintro e w3 ⟨he,x3⟩;unfold pan at he;subst he;have X3:=qaa (bt X1.out x3 Yi);clear x3))
 exact⟨rfl,rfl,X3.out⟩
theorem qcu {w:World} {base rp g cap:Nat} {Ts:List Tk} {i:Nat} (h:RdA w base rp g cap Ts i) {text:By} (ht:isT Ts 7 text i=true):Calls Tryz.prog 75 #[.pointer (some ⟨rp,0,none⟩),.string ⟨text.toArray⟩] w fun e w'=>e=.returned (.tuple #[])∧RdA w' base rp g cap Ts (i+1)∧Kept (fun k=>k=rp) w w':=by
 have HT:=qaa (qj7 h ht (by decide));go_enter Tryz.func75,Tryz.ntmps75;go_wp2_with (go_at_call 115;refine HT.out.mono ?_;rintro e w1 ⟨rfl,r1,k1⟩;have R1:=qaa r1;have K1:=qaa k1;clear r1 k1);go_end0;exact⟨rfl,R1.out,K1.out⟩
theorem qce {w:World} {base rp g cap:Nat} {Ts:List Tk} {i:Nat} (h:RdA w base rp g cap Ts i) {text:By} (ht:¬isT Ts 7 text i=true):Calls Tryz.prog 75 #[.pointer (some ⟨rp,0,none⟩),.string ⟨text.toArray⟩] w fun e w'=>e=pan 90 (tok Ts i).p∧Below w.heap.size w w':=by
 have HT:=qaa (qh0 h (kind:=7) ht);go_enter Tryz.func75,Tryz.ntmps75;go_wp2_with (go_at_call 115;refine HT.out.mono ?_;rintro e w1 ⟨he,x1⟩;unfold pan at he;subst he;have X1:=qaa x1;clear x1);exact⟨rfl,rfl,X1.out⟩
theorem qj8 {w:World} {base rp g cap:Nat} {Ts:List Tk} {i:Nat} (h:RdA w base rp g cap Ts i) {text:By} (ht:isT Ts 1 text i=true):Calls Tryz.prog 76 #[.pointer (some ⟨rp,0,none⟩),.string ⟨text.toArray⟩] w fun e w'=>e=.returned (.tuple #[])∧RdA w' base rp g cap Ts (i+1)∧Kept (fun k=>k=rp) w w':=by
 have HT:=qaa (qj7 h ht (by decide));go_enter Tryz.func76,Tryz.ntmps76;go_wp2_with (go_at_call 115;refine HT.out.mono ?_;rintro e w1 ⟨rfl,r1,k1⟩;have R1:=qaa r1;have K1:=qaa k1;clear r1 k1);go_end0;exact⟨rfl,R1.out,K1.out⟩
theorem qh1 {w:World} {base rp g cap:Nat} {Ts:List Tk} {i:Nat} (h:RdA w base rp g cap Ts i) {text:By} (ht:¬isT Ts 1 text i=true):Calls Tryz.prog 76 #[.pointer (some ⟨rp,0,none⟩),.string ⟨text.toArray⟩] w fun e w'=>e=pan 90 (tok Ts i).p∧Below w.heap.size w w':=by
 have HT:=qaa (qh0 h (kind:=1) ht);go_enter Tryz.func76,Tryz.ntmps76;go_wp2_with (go_at_call 115;refine HT.out.mono ?_;rintro e w1 ⟨he,x1⟩;unfold pan at he;subst he;have X1:=qaa x1;clear x1);exact⟨rfl,rfl,X1.out⟩
def KpT (base b:Nat) (w w':World):Prop:=Kept (fun k=>k=b∨base≤k∧∃c f,w.heap[k]? =some (.cells c 5 f)∨w.heap[k]? =some (.cells c 49 f)) w w'
theorem KpT.refl (base b:Nat) (w:World):KpT base b w w:=Kept.refl _ _
theorem KpT.trans {base b:Nat} {u v w:World} (h:KpT base b u v) (k:KpT base b v w):KpT base b u w:=by
 refine Kept.trans_new h k (fun i hi hG=>?_);rcases hG with rfl|⟨hb,c,f,hc⟩
 ·exact .inl rfl
 ·by_cases hF:i=b∨base≤i∧∃c f,u.heap[i]? =some (.cells c 5 f)∨u.heap[i]? =some (.cells c 49 f)
  ·exact hF
  ·rw[h.block i hi hF] at hc
   exact .inr ⟨hb,c,f,hc⟩
theorem KpT.of_below {base b:Nat} {w w':World} (h:Below w.heap.size w w'):KpT base b w w':=Kept.of_below h
theorem KpT.to_below {base b:Nat} {w w':World} (h:KpT base b w w') (hb:base≤b) (hs:base≤w.heap.size):Below base w w':=Kept.below h hs (fun i hi=>by
 rcases hi with h1|⟨h1,_⟩
 ·omega
 ·exact h1)
theorem KpT.set {base b o:Nat} {w:World} (v:Value):KpT base b w (w.setCell ⟨b,o,none⟩ v):=(Kept.refl _ w).setCell (p:=⟨b,o,none⟩) (.inl rfl) v
theorem KpT.of5 {base b:Nat} {w w':World} (h:KpO 5 base b w w'):KpT base b w w':=Kept.mono h (fun i hi=>by
 rcases hi with h1|⟨hb,c,f,h1⟩
 ·exact .inl h1
 ·exact .inr ⟨hb,c,f,.inl h1⟩)
theorem KpT.of40 {base b:Nat} {w w':World} (h:KpO 49 base b w w'):KpT base b w w':=Kept.mono h (fun i hi=>by
 rcases hi with h1|⟨hb,c,f,h1⟩
 ·exact .inl h1
 ·exact .inr ⟨hb,c,f,.inr h1⟩)
theorem KpT.block' {base b k:Nat} {w w':World} {o:Obj} (h:KpT base b w w') (ho:w.heap[k]? =some o) (hk:k≠b) (h5:∀c f,o≠.cells c 5 f) (Rf:∀c f,o≠.cells c 49 f):w'.heap[k]? =some o:=by
 rw[Kept.block h k (Yd ho) ?_,ho];rintro(h1|⟨_,c,f,h1|h1⟩)
 ·exact hk h1
 ·rw[ho] at h1
  injection h1 with h1
  exact h5 c f h1
 ·rw[ho] at h1
  injection h1 with h1
  exact Rf c f h1
structure SS where
 tk:List Tk
 st:Int
 fr:Int
 mn:By
structure Sc (w:World) (base p:Nat) (s:By) (x:SS) (tv ad bv:Value):Prop where
 blk:w.heap[p]? =some (.cells #[.string ⟨s.toArray⟩,tv,.int .i64 x.st,.int .i64 x.fr,ad,bv] 89 (0,0))
 ge:base≤p
 ad':ad=.pointer none∨ad=.pointer (some ⟨p,4,none⟩)
 tok:w.ownsRow base 49 6 tv x.tk.length (tkC x.tk)
 row:w.ownsRow base 5 1 bv x.mn.length (Lib.byteCells x.mn)
 nil:x.mn=[]→bv=.slice none 0 0
def ScA (w:World) (base p:Nat) (s:By) (x:SS):Prop:=∃tv ad bv,Sc w base p s x tv ad bv
theorem qsi:liesAt Tryz.prog Tryz.prog.depth 89 (6/Tryz.prog.cellsOf 89) 4 87 1=true:=by kernel_rfl
section
variable {w w':World} {base p:Nat} {s:By} {x:SS} {tv ad bv:Value}
theorem Sc.bu (h:Sc w base p s x tv ad bv):BuB w base p 4 89 #[.string ⟨s.toArray⟩,tv,.int .i64 x.st,.int .i64 x.fr,ad,bv] x.mn:=by
 refine⟨h.blk,h.ge,by simp,qsi,⟨by decide,by decide⟩,?_,bv,rfl,h.row⟩;rcases h.ad' with e|e
 ·left;rw[e];rfl
 ·right;rw[e];rfl
theorem Sc.cells (h:Sc w base p s x tv ad bv):w.cell? ⟨p,0,none⟩=some (.string ⟨s.toArray⟩)∧w.cell? ⟨p,2,none⟩=some (.int .i64 x.st)∧w.cell? ⟨p,3,none⟩=some (.int .i64 x.fr)∧w.frozen? ⟨p,2,none⟩=false∧w.frozen? ⟨p,3,none⟩=false:=
 ⟨by rw[Ye _ _ _ _ _ _ h.blk];rfl,by rw[Ye _ _ _ _ _ _ h.blk];rfl,by rw[Ye _ _ _ _ _ _ h.blk];rfl,Yf _ _ _ _ _ h.blk,Yf _ _ _ _ _ h.blk⟩
theorem Sc.row_ne (h:Sc w base p s x tv ad bv) {size n:Nat} {t:TypeId} {v:Value} {xs:List Value} (hv:w.ownsRow base t size v n xs) (ht:t=5∨t=49) (k:Nat) (hk:v.ownBlock=some k):¬k=p:=h.bu.apart hv ht k hk
theorem Sc.setSt (h:Sc w base p s x tv ad bv) (z:Int):Sc (w.setCell ⟨p,2,none⟩ (.int .i64 z)) base p s { x with st:=z } tv ad bv∧KpT base p w (w.setCell ⟨p,2,none⟩ (.int .i64 z)):=by
 have k:Kept (fun k=>k=p) w (w.setCell ⟨p,2,none⟩ (.int .i64 z)):=(Kept.refl (fun k=>k=p) w).setCell (p:=⟨p,2,none⟩) rfl _;exact⟨⟨by have:=qab h.blk 2 (.int .i64 z);exact this,h.ge,h.ad',qai h.tok k (h.row_ne h.tok (.inr rfl)),qai h.row k (h.row_ne h.row (.inl rfl)),h.nil⟩,KpT.set _⟩
theorem Sc.setFr (h:Sc w base p s x tv ad bv) (z:Int):Sc (w.setCell ⟨p,3,none⟩ (.int .i64 z)) base p s { x with fr:=z } tv ad bv∧KpT base p w (w.setCell ⟨p,3,none⟩ (.int .i64 z)):=by
 have k:Kept (fun k=>k=p) w (w.setCell ⟨p,3,none⟩ (.int .i64 z)):=(Kept.refl (fun k=>k=p) w).setCell (p:=⟨p,3,none⟩) rfl _;exact⟨⟨by have:=qab h.blk 3 (.int .i64 z);exact this,h.ge,h.ad',qai h.tok k (h.row_ne h.tok (.inr rfl)),qai h.row k (h.row_ne h.row (.inl rfl)),h.nil⟩,KpT.set _⟩
theorem Sc.below (h:Sc w base p s x tv ad bv) (y:Below w.heap.size w w'):Sc w' base p s x tv ad bv:=
 ⟨(y.block p (Yd h.blk)).trans h.blk,h.ge,h.ad',own_below h.tok y,own_below h.row y,h.nil⟩
theorem Sc.add (h:Sc w base p s x tv ad bv) (y:Tk) (hl:x.tk.length≤4294967296) (hb:base≤w.heap.size):
 Calls Tryz.prog 64 #[.pointer (some ⟨p,0,none⟩),.agg (tkV y)] w fun e w'=>e=.returned (.tuple #[])∧ScA w' base p s { x with tk:=x.tk++[{ y with p:=x.fr }] }∧KpT base p w w'∧w.heap.size≤w'.heap.size:=by
 refine(qmd p base _ tv _ ad bv x.fr x.tk y w h.blk h.tok hl hb).mono ?_;rintro e w' ⟨rfl,⟨tv',h1,h2⟩,k⟩;exact⟨rfl,⟨tv',ad,bv,h1,h.ge,h.ad',by simpa using h2,k.own h.row (by decide) (h.row_ne h.row (.inl rfl)),h.nil⟩,KpT.of40 k,k.size⟩
end
def rB (r:Int):UInt8:=UInt8.ofNat r.toNat
theorem qqv {r:Int} (h0:0≤r) (h1:r<128):((rB r).toNat:Int)=r:=by
 unfold rB;rw[UInt8.toNat_ofNat'];omega
def qb8 (x:SS) (r:Int):Int×SS:=if txB r=true∧x.mn.length≠200 then(0,{ x with mn:=x.mn++[rB r] }) else(83,x)
def ScE (w:World) (base p:Nat) (s:By) (y:Int×SS) (e:Ending) (w':World):Prop:=e=.returned (.int .i64 y.1)∧ScA w' base p s y.2∧KpT base p w w'∧w.heap.size≤w'.heap.size
section
variable {w:World} {base p:Nat} {s:By} {x:SS}
theorem qj9 (h:ScA w base p s x) (r:Int) (hb:base≤w.heap.size) (hm:x.mn.length≤4294967296):
 Calls Tryz.prog 90 #[.pointer (some ⟨p,0,none⟩),.int .i32 r] w fun e w'=>ScE w base p s (qb8 x r) e w':=by
 obtain⟨tv,ad,bv,h⟩:=h;have HT:=qaa (fun W=>qk4 r W);have HH:=qaa h;by_cases ht:txB r=true
 ·rw[ht] at HT
  have hr:0≤r∧r<128:=by unfold txB at ht;simp at ht;omega
  have HL:=qaa h.bu.len;by_cases h2:x.mn.length=200
  ·have HM:Hid (qb8 x r=(83,x)):=by unfold Hid qb8;rw[if_neg (by simp[h2])]
   rw[h2] at HL;clear h ht;go_enter Tryz.func90,Tryz.ntmps90;go_wp2_with (first|(go_at_call 125;refine(HT.out _).mono ?_;rintro e wz ⟨rfl,Ba⟩;have Ba:=Ba.symm;subst Ba)|(go_at_call 126;refine HL.out.mono ?_;rintro e wz ⟨rfl,Ba⟩;have Ba:=Ba.symm;subst Ba));go_ret;rw[HM.out];exact⟨rfl,⟨_,_,_,HH.out⟩,KpT.refl _ _ _,Nat.le_refl _⟩
  ·have HM:Hid (qb8 x r=(0,{ x with mn:=x.mn++[rB r] })):=by unfold Hid qb8;rw[if_pos ⟨ht,h2⟩]
   have h3:¬(x.mn.length:Int)=200:=by omega
   have HW:=qaa (h.bu.rune (rB r) (by have:=qqv hr.1 hr.2;omega) hb (by omega));rw[qqv hr.1 hr.2] at HW;clear h ht;go_enter Tryz.func90,Tryz.ntmps90;go_wp2_with (first|(go_at_call 125;refine(HT.out _).mono ?_;rintro e wz ⟨rfl,Ba⟩;have Ba:=Ba.symm;subst Ba)|(go_at_call 126;refine HL.out.mono ?_;rintro e wz ⟨rfl,Ba⟩;have Ba:=Ba.symm;subst Ba)|(go_at_call 127;refine HW.out.mono ?_;rintro e w1 ⟨rfl,⟨v',hB⟩,hK⟩;have HB:=qaa hB;have HK:=qaa hK;clear hB hK));go_ret;rw[HM.out];refine⟨rfl,⟨tv,.pointer (some ⟨p,4,none⟩),v',HB.out.blk,HH.out.ge,.inr rfl,?_,?_,fun e=>by simp at e⟩,KpT.of5 HK.out,HK.out.size⟩
   ·exact HK.out.own HH.out.tok (by decide) (HH.out.row_ne HH.out.tok (.inr rfl))
   ·obtain⟨v,hv,hr⟩:=HB.out.row
    simp at hv;subst hv;exact hr
 ·have ht':txB r=false:=by simpa using ht
  have HM:Hid (qb8 x r=(83,x)):=by unfold Hid qb8;rw[if_neg (by simp[ht'])]
  rw[ht'] at HT;clear h ht ht';go_enter Tryz.func90,Tryz.ntmps90;go_wp2_with (go_at_call 125;refine(HT.out _).mono ?_;rintro e wz ⟨rfl,Ba⟩;have Ba:=Ba.symm;subst Ba);go_ret;rw[HM.out];exact⟨rfl,⟨_,_,_,HH.out⟩,KpT.refl _ _ _,Nat.le_refl _⟩
end
def qaz (x:SS) (r:Int):Int×SS:=if r=34 then(0,{ x with tk:=x.tk++[⟨6,x.mn,0,0,0,x.fr⟩],mn:=[],st:=0 }) else if r=92 then(0,{ x with st:=6 }) else qb8 x r
def qbe (x:SS) (r:Int):Int×SS:=if esB r=true then qb8 { x with st:=5 } r else(83,x)
def qal (x:SS) (run:By) (kind most:Int):Int×SS:=if most<run.length then(82,x) else(0,{ x with tk:=x.tk++[⟨kind,run,0,0,0,x.fr⟩] })
section
variable {w:World} {base p:Nat} {s:By} {x:SS}
theorem qh2 (h:ScA w base p s x) (r:Int) (hb:base≤w.heap.size) (hm:x.mn.length≤4294967296) (hl:x.tk.length≤4294967296):
 Calls Tryz.prog 59 #[.pointer (some ⟨p,0,none⟩),.int .i32 r] w fun e w'=>ScE w base p s (qaz x r) e w':=by
 by_cases h1:r=34
 ·subst h1
  have HM:Hid (qaz x 34=(0,{ x with tk:=x.tk++[⟨6,x.mn,0,0,0,x.fr⟩],mn:=[],st:=0 })):=by unfold Hid qaz;rw[if_pos rfl]
  obtain⟨tv,ad,bv,h⟩:=h;have HH:=qaa h;have HS:=qaa (h.bu.string (fun e=>by rw[h.nil e];rfl));clear h;go_enter Tryz.func59,Tryz.ntmps59;go_wp2_with (go_at_call 67;refine HS.out.mono ?_;rintro e w1 ⟨rfl,hC,hK,hz⟩;have HC:=qaa hC;have HK:=qaa hK;have HZ:=qaa hz;clear hC hK hz);have HT:=qaa (HK.out.own HH.out.tok (by decide) (HH.out.row_ne HH.out.tok (.inr rfl)));have HA:=qaa (qmd p base _ tv _ ad bv x.fr x.tk ⟨6,x.mn,0,0,0,0⟩ w1 HC.out.blk HT.out hl (by have:=HZ.out;omega));unfold tkV at HA;refine HA.out.mono ?_;rintro e w2 ⟨rfl,⟨tv',hB2,hT2⟩,hK2⟩;have HB2:=qaa hB2;have HT2:=qaa hT2;have Bn:=qaa hK2;clear HA HS hB2 hT2 hK2;have BH:Hid (BuC w2 base p 4 89 #[.string ⟨s.toArray⟩,tv',.int .i64 x.st,.int .i64 x.fr,ad,bv]):=⟨HB2.out,HC.out.ge,HC.out.ho,HC.out.lies,HC.out.ne⟩;have HR:=qaa BH.out.reset;go_wp2_with (go_at_call 89;refine HR.out.mono ?_;rintro e w3 ⟨rfl,hB3,hK3⟩;have f2:=Yf _ _ 2 _ _ hB3.blk;have c2:=Ye _ _ 2 _ _ _ hB3.blk;have HB3:=qaa hB3;have Db:=qaa hK3;clear hB3 hK3);go_ret;rw[HM.out];have k3:=KpT.of5 Db.out;have s3:Sc w3 base p s { tk:=x.tk++[⟨6,x.mn,0,0,0,x.fr⟩],st:=x.st,fr:=x.fr,mn:=[] } tv' (.pointer none) (.slice none 0 0):=by
   obtain⟨v,hv,hr⟩:=HB3.out.row;simp at hv;subst hv;exact⟨HB3.out.blk,HH.out.ge,.inl rfl,Db.out.own (by simpa using HT2.out) (by decide) (fun k hk e'=>by
    obtain⟨c,hc⟩:=qaw HT2.out k hk;rw[e',HB2.out] at hc;injection hc with hc
    injection hc with _ hc _
    cases hc),hr,fun _=>rfl⟩
  obtain⟨s4,k4⟩:=s3.setSt 0;exact⟨rfl,⟨_,_,_,s4⟩,(KpT.of5 HK.out).trans ((KpT.of40 Bn.out).trans (k3.trans k4)),by
   have h1:=HZ.out;have h2:=Bn.out.size;have h3:=Db.out.size;have h4:=k4.size;omega⟩
 ·have e1:(r==34)=false:=by simp[h1]
  by_cases h2:r=92
  ·subst h2
   have HM:Hid (qaz x 92=(0,{ x with st:=6 })):=by unfold Hid qaz;rw[if_neg (by decide),if_pos rfl]
   obtain⟨tv,ad,bv,h⟩:=h;have HH:=qaa h;obtain⟨c0,c2,c3,f2,f3⟩:=h.cells;clear h;go_enter Tryz.func59,Tryz.ntmps59;go_wp2;go_ret;rw[HM.out];obtain⟨s4,k4⟩:=HH.out.setSt 6;exact⟨rfl,⟨_,_,_,s4⟩,k4,k4.size⟩
  ·have e2:(r==92)=false:=by simp[h2]
   have HM:Hid (qaz x r=qb8 x r):=by unfold Hid qaz;rw[if_neg h1,if_neg h2]
   have HX:=qaa (qj9 h r hb hm);clear h;go_enter Tryz.func59,Tryz.ntmps59;go_wp2_with (go_at_call 90;refine HX.out.mono ?_;rintro e w1 ⟨rfl,hA,hK,hS⟩;have HA:=qaa hA;have HK:=qaa hK;have HS:=qaa hS;clear hA hK hS);go_ret;rw[HM.out];exact⟨rfl,HA.out,HK.out,HS.out⟩
theorem qi0 (h:ScA w base p s x) (r:Int) (hb:base≤w.heap.size) (hm:x.mn.length≤4294967296):
 Calls Tryz.prog 60 #[.pointer (some ⟨p,0,none⟩),.int .i32 r] w fun e w'=>ScE w base p s (qbe x r) e w':=by
 have HE:=qaa (fun W=>qmc r W);cases he:esB r with
 |false=>
  have HM:Hid (qbe x r=(83,x)):=by unfold Hid qbe;rw[if_neg (by simp[he])]
  rw[he] at HE;have HH:=qaa h;clear h he;go_enter Tryz.func60,Tryz.ntmps60;go_wp2_with (go_at_call 91;refine(HE.out _).mono ?_;rintro e wz ⟨rfl,Ba⟩;have Ba:=Ba.symm;subst Ba);go_ret;rw[HM.out];exact⟨rfl,HH.out,KpT.refl _ _ _,Nat.le_refl _⟩
 |true=>
  have HM:Hid (qbe x r=qb8 { x with st:=5 } r):=by unfold Hid qbe;rw[if_pos he]
  rw[he] at HE;obtain⟨tv,ad,bv,h⟩:=h;obtain⟨c0,c2,c3,f2,f3⟩:=h.cells;obtain⟨s4,k4⟩:=h.setSt 5;have K4:=qaa k4;have HX:=qaa (qj9 ⟨_,_,_,s4⟩ r (by have:=k4.size;omega) hm);clear h he s4 k4;go_enter Tryz.func60,Tryz.ntmps60;go_wp2_with (first|(go_at_call 91;refine(HE.out _).mono ?_;rintro e wz ⟨rfl,Ba⟩;have Ba:=Ba.symm;subst Ba)|(go_at_call 90;refine HX.out.mono ?_;rintro e w1 ⟨rfl,hA,hK,hS⟩;have HA:=qaa hA;have HK:=qaa hK;have HS:=qaa hS;clear hA hK hS));go_ret;rw[HM.out];exact⟨rfl,HA.out,K4.out.trans HK.out,Nat.le_trans K4.out.size HS.out⟩
theorem qg9 (r:By) (w:World):Calls Tryz.prog 97 #[.string ⟨r.toArray⟩] w fun e w'=>e=.returned (.int .i64 (if wdB r=true then 1 else 2))∧w'=w:=by
 have HW:=qaa (fun W=>qgl r W);cases hb:wdB r
 all_goals
  rw[hb] at HW;clear hb;go_enter Tryz.func97,Tryz.ntmps97;go_wp2_with (go_at_call 129;refine(HW.out _).mono ?_;rintro e wz ⟨rfl,Ba⟩;have Ba:=Ba.symm;subst Ba);go_ret;exact⟨rfl,rfl⟩
theorem qd0 (h:ScA w base p s x) (run:By) (kind most:Int) (hb:base≤w.heap.size) (hl:x.tk.length≤4294967296):
 Calls Tryz.prog 96 #[.pointer (some ⟨p,0,none⟩),.string ⟨run.toArray⟩,.int .i64 kind,.int .i64 most] w fun e w'=>ScE w base p s (qal x run kind most) e w':=by
 have hsz:=qa5 run;by_cases h1:most<run.length
 ·have HM:Hid (qal x run kind most=(82,x)):=by unfold Hid qal;rw[if_pos h1]
  have HH:=qaa h;clear h;go_enter Tryz.func96,Tryz.ntmps96;go_wp2;go_ret;rw[HM.out];exact⟨rfl,HH.out,KpT.refl _ _ _,Nat.le_refl _⟩
 ·have HM:Hid (qal x run kind most=(0,{ x with tk:=x.tk++[⟨kind,run,0,0,0,x.fr⟩] })):=by unfold Hid qal;rw[if_neg h1]
  obtain⟨tv,ad,bv,h⟩:=h;have HA:=qaa (h.add ⟨kind,run,0,0,0,0⟩ hl hb);unfold tkV at HA;clear h;go_enter Tryz.func96,Tryz.ntmps96;go_wp2_with (go_at_call 64;refine HA.out.mono ?_;rintro e w1 ⟨rfl,hA,hK,hS⟩;have HA2:=qaa hA;have HK:=qaa hK;have HS:=qaa hS;clear hA hK hS);go_ret;rw[HM.out];exact⟨rfl,HA2.out,HK.out,HS.out⟩
end
end Go.Proofs.YtlmhofjiobmodaaGreatDoor

