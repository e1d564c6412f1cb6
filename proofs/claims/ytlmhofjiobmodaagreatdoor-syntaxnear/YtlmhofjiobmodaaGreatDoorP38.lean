/-
  What the document's reading of a condition comes to; begins, over by their contracts. No condition.
-/
import Derived.Test.YtlmhofjiobmodaaGreatDoorP37
set_option maxRecDepth 100000
set_option maxHeartbeats 16000000
namespace Go.Proofs.YtlmhofjiobmodaaGreatDoor
open Go.RowKit Go.Lib
def Jk (v:Value):Prop:=∃k nm tx a3 n3 c3 a4 n4 c4 a5 n5 c5 a6 n6 c6 p,v=.agg #[.int .i64 k,.string nm,.string tx,.slice a3 n3 c3,.slice a4 n4 c4,.slice a5 n5 c5,.slice a6 n6 c6,.int .i64 p]
theorem qqg {w:World} {rp:Nat} {k:Int} {nm tx:ByteArray} {a3 a4 a5 a6:Option Addr} {n3 c3 n4 c4 n5 c5 n6 c6:Nat} {p d:Int} (hd:d≤16):Calls Tryz.prog 88 #[.pointer (some ⟨rp,0,none⟩),.agg #[.int .i64 k,.string nm,.string tx,.slice a3 n3 c3,.slice a4 n4 c4,.slice a5 n5 c5,.slice a6 n6 c6,.int .i64 p],.int .i64 d] w fun e' w'=>e'=.returned (.tuple #[.agg #[.int .i64 k,.string nm,.string tx,.slice a3 n3 c3,.slice a4 n4 c4,.slice a5 n5 c5,.slice a6 n6 c6,.int .i64 p],.int .i64 d])∧Below w.heap.size w w':=by
 obtain⟨W,hW⟩:∃W,W=(w.alloc (.cells #[.int .i64 k,.string nm,.string tx,.slice a3 n3 c3,.slice a4 n4 c4,.slice a5 n5 c5,.slice a6 n6 c6,.int .i64 p] 60)).alloc (.cells #[.int .i64 0,.string ⟨#[]⟩,.string ⟨#[]⟩,.slice none 0 0,.slice none 0 0,.slice none 0 0,.slice none 0 0,.int .i64 0] 60):=⟨_,rfl⟩;have X0:=qaa (show Below w.heap.size w W by rw[hW];exact al (al Yj _) _);obtain⟨P,hP⟩:∃P,P=w.heap.size:=⟨_,rfl⟩;obtain⟨Q,hQ⟩:∃Q,Q=w.heap.size+1:=⟨_,rfl⟩;have HB:=qaa (show W.heap[P]? =some (.cells #[.int .i64 k,.string nm,.string tx,.slice a3 n3 c3,.slice a4 n4 c4,.slice a5 n5 c5,.slice a6 n6 c6,.int .i64 p] 60 (0,0)) by
  rw[hW,hP];exact(heap_alloc_old _ _ (by simp)).trans (Yh w _))
 have HQ:=qaa (show W.heap[Q]? =some (.cells #[.int .i64 0,.string ⟨#[]⟩,.string ⟨#[]⟩,.slice none 0 0,.slice none 0 0,.slice none 0 0,.slice none 0 0,.int .i64 0] 60 (0,0)) by
  rw[hW,hQ,show w.heap.size+1=(w.alloc (.cells #[.int .i64 k,.string nm,.string tx,.slice a3 n3 c3,.slice a4 n4 c4,.slice a5 n5 c5,.slice a6 n6 c6,.int .i64 p] 60)).heap.size by simp];exact Yh _ _)
 have Bd:Hid (P=w.heap.size∧Q=w.heap.size+1):=⟨hP,hQ⟩;have hg:¬(16:Int)<d:=by omega
 clear hd;go_enter Tryz.func88,Tryz.ntmps88;go_upto_region 1 with fail
 rw[←hQ,←hW,←hP];clear hW hP hQ;obtain⟨q0,q1,q2,q3,q4,q5,q6,q7⟩:=ld8 HB.out;have XA:=qaa X0.out;obtain⟨⟨_,p0⟩,f0,⟨_,p1⟩,f1,⟨_,p2⟩,f2,⟨_,p3⟩,f3,⟨_,p4⟩,f4,⟨_,p5⟩,f5,⟨_,p6⟩,f6,⟨_,p7⟩,f7,Be,Bf⟩:=st8 HQ.out (.int .i64 k) (.string nm) (.string tx) (.slice a3 n3 c3) (.slice a4 n4 c4) (.slice a5 n5 c5) (.slice a6 n6 c6) (.int .i64 p);have Bg:=qaa Be;have KQ:=qaa Bf;clear Be Bf;go_wp2;clear p0 f0 p1 f1 p2 f2 p3 f3 p4 f4 p5 f5 p6 f6 p7 f7;generalize ((((((((W.setCell ⟨Q,0,none⟩ (.int .i64 k)).setCell ⟨Q,1,none⟩ (.string nm)).setCell ⟨Q,2,none⟩ (.string tx)).setCell ⟨Q,3,none⟩ (.slice a3 n3 c3)).setCell ⟨Q,4,none⟩ (.slice a4 n4 c4)).setCell ⟨Q,5,none⟩ (.slice a5 n5 c5)).setCell ⟨Q,6,none⟩ (.slice a6 n6 c6)).setCell ⟨Q,7,none⟩ (.int .i64 p))=w9 at *;clear q0 q1 q2 q3 q4 q5 q6 q7;obtain⟨q0,q1,q2,q3,q4,q5,q6,q7⟩:=ld8 Bg.out;refine Yg (by simp[results,Tryz.results88,go_sem,q0,q1,q2,q3,q4,q5,q6,q7];try rfl) rfl ?_;exact⟨rfl,Below.low XA.out KQ.out (fun j hj=>by have:=Bd.out;rw[hj];omega)⟩
theorem qqh {w:World} {base rp g cap:Nat} {Ts:List Tk} {i:Nat} {k:Int} {nm tx:ByteArray} {a3 a4 a5 a6:Option Addr} {n3 c3 n4 c4 n5 c5 n6 c6:Nat} {p d:Int} (h:DpA w base rp g cap Ts i 0 0) (hd:¬d≤16):Calls Tryz.prog 88 #[.pointer (some ⟨rp,0,none⟩),.agg #[.int .i64 k,.string nm,.string tx,.slice a3 n3 c3,.slice a4 n4 c4,.slice a5 n5 c5,.slice a6 n6 c6,.int .i64 p],.int .i64 d] w fun e' w'=>e'=.returned (.tuple #[.agg #[.int .i64 k,.string nm,.string tx,.slice a3 n3 c3,.slice a4 n4 c4,.slice a5 n5 c5,.slice a6 n6 c6,.int .i64 p],.int .i64 d])∧DpA w' base rp g cap Ts i 91 p∧Kept (fun k=>k=rp) w w':=by
 obtain⟨W,hW⟩:∃W,W=(w.alloc (.cells #[.int .i64 k,.string nm,.string tx,.slice a3 n3 c3,.slice a4 n4 c4,.slice a5 n5 c5,.slice a6 n6 c6,.int .i64 p] 60)).alloc (.cells #[.int .i64 0,.string ⟨#[]⟩,.string ⟨#[]⟩,.slice none 0 0,.slice none 0 0,.slice none 0 0,.slice none 0 0,.int .i64 0] 60):=⟨_,rfl⟩;have X0:=qaa (show Below w.heap.size w W by rw[hW];exact al (al Yj _) _);obtain⟨P,hP⟩:∃P,P=w.heap.size:=⟨_,rfl⟩;obtain⟨Q,hQ⟩:∃Q,Q=w.heap.size+1:=⟨_,rfl⟩;have HB:=qaa (show W.heap[P]? =some (.cells #[.int .i64 k,.string nm,.string tx,.slice a3 n3 c3,.slice a4 n4 c4,.slice a5 n5 c5,.slice a6 n6 c6,.int .i64 p] 60 (0,0)) by
  rw[hW,hP];exact(heap_alloc_old _ _ (by simp)).trans (Yh w _))
 have HQ:=qaa (show W.heap[Q]? =some (.cells #[.int .i64 0,.string ⟨#[]⟩,.string ⟨#[]⟩,.slice none 0 0,.slice none 0 0,.slice none 0 0,.slice none 0 0,.int .i64 0] 60 (0,0)) by
  rw[hW,hQ,show w.heap.size+1=(w.alloc (.cells #[.int .i64 k,.string nm,.string tx,.slice a3 n3 c3,.slice a4 n4 c4,.slice a5 n5 c5,.slice a6 n6 c6,.int .i64 p] 60)).heap.size by simp];exact Yh _ _)
 have Bd:Hid (P=w.heap.size∧Q=w.heap.size+1):=⟨hP,hQ⟩;have hg:(16:Int)<d:=by omega
 clear hd;go_enter Tryz.func88,Tryz.ntmps88;go_upto_region 1 with fail
 rw[←hQ,←hW,←hP];clear hW hP hQ;obtain⟨q0,q1,q2,q3,q4,q5,q6,q7⟩:=ld8 HB.out;have HC:=qaa (qcg (h.below X0.out) 91 p);have Bc:=qaa h.gl;clear h;go_upto_region 3 with(go_at_call 31;refine HC.out.mono ?_;rintro e' w1 ⟨rfl,d1,k1⟩;have D1:=qaa d1;have K1:=qaa k1;clear d1 k1)
 have nP:P≠rp:=by have:=Bc.out;have:=Bd.out;omega
 have nQ:Q≠rp:=by have:=Bc.out;have:=Bd.out;omega
 have B1:=qaa ((K1.out.block P (Yd HB.out) nP).trans HB.out);have Q1:=qaa ((K1.out.block Q (Yd HQ.out) nQ).trans HQ.out);clear q0 q1 q2 q3 q4 q5 q6 q7;obtain⟨q0,q1,q2,q3,q4,q5,q6,q7⟩:=ld8 B1.out;obtain⟨⟨_,p0⟩,f0,⟨_,p1⟩,f1,⟨_,p2⟩,f2,⟨_,p3⟩,f3,⟨_,p4⟩,f4,⟨_,p5⟩,f5,⟨_,p6⟩,f6,⟨_,p7⟩,f7,Be,Bf⟩:=st8 Q1.out (.int .i64 k) (.string nm) (.string tx) (.slice a3 n3 c3) (.slice a4 n4 c4) (.slice a5 n5 c5) (.slice a6 n6 c6) (.int .i64 p);have Bg:=qaa Be;have KQ:=qaa Bf;clear Be Bf;go_wp2;clear p0 f0 p1 f1 p2 f2 p3 f3 p4 f4 p5 f5 p6 f6 p7 f7;generalize ((((((((w1.setCell ⟨Q,0,none⟩ (.int .i64 k)).setCell ⟨Q,1,none⟩ (.string nm)).setCell ⟨Q,2,none⟩ (.string tx)).setCell ⟨Q,3,none⟩ (.slice a3 n3 c3)).setCell ⟨Q,4,none⟩ (.slice a4 n4 c4)).setCell ⟨Q,5,none⟩ (.slice a5 n5 c5)).setCell ⟨Q,6,none⟩ (.slice a6 n6 c6)).setCell ⟨Q,7,none⟩ (.int .i64 p))=w9 at *;clear q0 q1 q2 q3 q4 q5 q6 q7;obtain⟨q0,q1,q2,q3,q4,q5,q6,q7⟩:=ld8 Bg.out;refine Yg (by simp[results,Tryz.results88,go_sem,q0,q1,q2,q3,q4,q5,q6,q7];try rfl) rfl ?_;exact⟨rfl,D1.out.kept KQ.out (by have:=Bc.out;have:=Bd.out;show ¬rp=Q;omega) (by have:=Bc.out;have:=Bd.out;show ¬g=Q;omega),((Kept.of_below X0.out).trans K1.out).fin KQ.out (by have:=Bd.out;omega)⟩
theorem ql0 {w:World} {base rp g cap:Nat} {Ts:List Tk} {i:Nat} {e q:Int} {k:Int} {nm tx:ByteArray} {a3 a4 a5 a6:Option Addr} {n3 c3 n4 c4 n5 c5 n6 c6:Nat} {p d:Int} (h:DpA w base rp g cap Ts i e q) (he:e≠0):Calls Tryz.prog 88 #[.pointer (some ⟨rp,0,none⟩),.agg #[.int .i64 k,.string nm,.string tx,.slice a3 n3 c3,.slice a4 n4 c4,.slice a5 n5 c5,.slice a6 n6 c6,.int .i64 p],.int .i64 d] w fun e' w'=>e'=.returned (.tuple #[.agg #[.int .i64 k,.string nm,.string tx,.slice a3 n3 c3,.slice a4 n4 c4,.slice a5 n5 c5,.slice a6 n6 c6,.int .i64 p],.int .i64 d])∧Below w.heap.size w w':=by
 obtain⟨W,hW⟩:∃W,W=(w.alloc (.cells #[.int .i64 k,.string nm,.string tx,.slice a3 n3 c3,.slice a4 n4 c4,.slice a5 n5 c5,.slice a6 n6 c6,.int .i64 p] 60)).alloc (.cells #[.int .i64 0,.string ⟨#[]⟩,.string ⟨#[]⟩,.slice none 0 0,.slice none 0 0,.slice none 0 0,.slice none 0 0,.int .i64 0] 60):=⟨_,rfl⟩;have X0:=qaa (show Below w.heap.size w W by rw[hW];exact al (al Yj _) _);obtain⟨P,hP⟩:∃P,P=w.heap.size:=⟨_,rfl⟩;obtain⟨Q,hQ⟩:∃Q,Q=w.heap.size+1:=⟨_,rfl⟩;have HB:=qaa (show W.heap[P]? =some (.cells #[.int .i64 k,.string nm,.string tx,.slice a3 n3 c3,.slice a4 n4 c4,.slice a5 n5 c5,.slice a6 n6 c6,.int .i64 p] 60 (0,0)) by
  rw[hW,hP];exact(heap_alloc_old _ _ (by simp)).trans (Yh w _))
 have HQ:=qaa (show W.heap[Q]? =some (.cells #[.int .i64 0,.string ⟨#[]⟩,.string ⟨#[]⟩,.slice none 0 0,.slice none 0 0,.slice none 0 0,.slice none 0 0,.int .i64 0] 60 (0,0)) by
  rw[hW,hQ,show w.heap.size+1=(w.alloc (.cells #[.int .i64 k,.string nm,.string tx,.slice a3 n3 c3,.slice a4 n4 c4,.slice a5 n5 c5,.slice a6 n6 c6,.int .i64 p] 60)).heap.size by simp];exact Yh _ _)
 have Bd:Hid (P=w.heap.size∧Q=w.heap.size+1):=⟨hP,hQ⟩;by_cases hd:d≤16
 ·clear h he
  have hg:¬(16:Int)<d:=by omega
  clear hd;go_enter Tryz.func88,Tryz.ntmps88;go_upto_region 1 with fail
  rw[←hQ,←hW,←hP];clear hW hP hQ;obtain⟨q0,q1,q2,q3,q4,q5,q6,q7⟩:=ld8 HB.out;have XA:=qaa X0.out;obtain⟨⟨_,p0⟩,f0,⟨_,p1⟩,f1,⟨_,p2⟩,f2,⟨_,p3⟩,f3,⟨_,p4⟩,f4,⟨_,p5⟩,f5,⟨_,p6⟩,f6,⟨_,p7⟩,f7,Be,Bf⟩:=st8 HQ.out (.int .i64 k) (.string nm) (.string tx) (.slice a3 n3 c3) (.slice a4 n4 c4) (.slice a5 n5 c5) (.slice a6 n6 c6) (.int .i64 p);have Bg:=qaa Be;have KQ:=qaa Bf;clear Be Bf;go_wp2;clear p0 f0 p1 f1 p2 f2 p3 f3 p4 f4 p5 f5 p6 f6 p7 f7;generalize ((((((((W.setCell ⟨Q,0,none⟩ (.int .i64 k)).setCell ⟨Q,1,none⟩ (.string nm)).setCell ⟨Q,2,none⟩ (.string tx)).setCell ⟨Q,3,none⟩ (.slice a3 n3 c3)).setCell ⟨Q,4,none⟩ (.slice a4 n4 c4)).setCell ⟨Q,5,none⟩ (.slice a5 n5 c5)).setCell ⟨Q,6,none⟩ (.slice a6 n6 c6)).setCell ⟨Q,7,none⟩ (.int .i64 p))=w9 at *;clear q0 q1 q2 q3 q4 q5 q6 q7;obtain⟨q0,q1,q2,q3,q4,q5,q6,q7⟩:=ld8 Bg.out;refine Yg (by simp[results,Tryz.results88,go_sem,q0,q1,q2,q3,q4,q5,q6,q7];try rfl) rfl ?_;exact⟨rfl,Below.low XA.out KQ.out (fun j hj=>by have:=Bd.out;rw[hj];omega)⟩
 ·have hg:(16:Int)<d:=by omega
  clear hd;go_enter Tryz.func88,Tryz.ntmps88;go_upto_region 1 with fail
  rw[←hQ,←hW,←hP];clear hW hP hQ;obtain⟨q0,q1,q2,q3,q4,q5,q6,q7⟩:=ld8 HB.out;have HC:=qaa (qgb (h.below X0.out) he 91 p);clear h he;go_upto_region 3 with(go_at_call 31;refine HC.out.mono ?_;rintro e' w1 ⟨rfl,hw1⟩;have hw1:=hw1.symm;subst hw1)
  obtain⟨⟨_,p0⟩,f0,⟨_,p1⟩,f1,⟨_,p2⟩,f2,⟨_,p3⟩,f3,⟨_,p4⟩,f4,⟨_,p5⟩,f5,⟨_,p6⟩,f6,⟨_,p7⟩,f7,Be,Bf⟩:=st8 HQ.out (.int .i64 k) (.string nm) (.string tx) (.slice a3 n3 c3) (.slice a4 n4 c4) (.slice a5 n5 c5) (.slice a6 n6 c6) (.int .i64 p);have Bg:=qaa Be;have KQ:=qaa Bf;clear Be Bf;go_wp2;clear p0 f0 p1 f1 p2 f2 p3 f3 p4 f4 p5 f5 p6 f6 p7 f7;generalize ((((((((W.setCell ⟨Q,0,none⟩ (.int .i64 k)).setCell ⟨Q,1,none⟩ (.string nm)).setCell ⟨Q,2,none⟩ (.string tx)).setCell ⟨Q,3,none⟩ (.slice a3 n3 c3)).setCell ⟨Q,4,none⟩ (.slice a4 n4 c4)).setCell ⟨Q,5,none⟩ (.slice a5 n5 c5)).setCell ⟨Q,6,none⟩ (.slice a6 n6 c6)).setCell ⟨Q,7,none⟩ (.int .i64 p))=w9 at *;clear q0 q1 q2 q3 q4 q5 q6 q7;obtain⟨q0,q1,q2,q3,q4,q5,q6,q7⟩:=ld8 Bg.out;refine Yg (by simp[results,Tryz.results88,go_sem,q0,q1,q2,q3,q4,q5,q6,q7];try rfl) rfl ?_;exact⟨rfl,Below.low X0.out KQ.out (fun j hj=>by have:=Bd.out;rw[hj];omega)⟩
def qjr (t:By):Nat:=if t=qg3 then 1 else if t=qd7 then 2 else if t=qme then 7 else if t=qg4 then 8 else if t=qfl then 9 else if t=qmf then 10 else if t=qfm then 11 else if t=qsg then 12 else 0
theorem qip {Ts:List Tk} {i:Nat} (h1:(tok Ts i).k=1) (h0:(tok Ts i).t≠[]):qbd Ts i=qjr (tok Ts i).t:=by
 have e:∀s,isT Ts 1 s i=((tok Ts i).t==s):=fun s=>by unfold isT;rw[h1];rfl
 have e0:((tok Ts i).t==[])=false:=by simpa using h0
 unfold qbd qjr;generalize (tok Ts i).t=t at *;simp only[qbu,e,qeu,e0,beq_iff_eq];simp only[Bool.false_eq_true,if_false]
theorem qd5 {Ts:List Tk} {i:Nat} (h1:(tok Ts i).k≠1):qbd Ts i=0:=by
 have e:∀s,isT Ts 1 s i=false:=fun s=>by
  unfold isT;have:((tok Ts i).k==1)=false:=by simpa using h1
  rw[this];rfl
 unfold qbd;simp only[qbu,e];simp
def qiq:List By:=[[110,111,116],[116,114,117,101],[102,97,108,115,101],[97,100,100,114],[112,111,114,116],[109,101,116,104,111,100],[112,97,116,104],[104,101,97,100,101,114],[104,97,115]]
theorem qoh {Ts:List Tk} {i:Nat} (h1:(tok Ts i).k=1) (h0:(tok Ts i).t≠[]):qe3 Ts i=qiq.contains (tok Ts i).t:=by
 unfold qe3;rw[qip h1 h0];have e:∀k s,isT Ts k s i=((tok Ts i).k==k&&(tok Ts i).t==s):=fun k s=>rfl
 simp only[e,h1];generalize (tok Ts i).t=t at *;unfold qjr qiq;by_cases a0:t=qg2
 ·subst a0;rfl
 by_cases a1:t=qg3
 ·subst a1;rfl
 by_cases a2:t=qd7
 ·subst a2;rfl
 by_cases a3:t=qme
 ·subst a3;rfl
 by_cases a4:t=qg4
 ·subst a4;rfl
 by_cases a5:t=qfl
 ·subst a5;rfl
 by_cases a6:t=qmf
 ·subst a6;rfl
 by_cases a7:t=qfm
 ·subst a7;rfl
 by_cases a8:t=qsg
 ·subst a8;rfl
 rw[if_neg a1,if_neg a2,if_neg a3,if_neg a4,if_neg a5,if_neg a6,if_neg a7,if_neg a8];unfold qg2 qg3 qd7 qme qg4 qfl qmf qfm qsg at *;simp[a0,a1,a2,a3,a4,a5,a6,a7,a8]
theorem qgc {w:World} {base rp g cap:Nat} {Ts:List Tk} {i:Nat} {e q:Int} (h:DpA w base rp g cap Ts i e q) (hg:GdT Ts):Calls Tryz.prog 87 #[.pointer (some ⟨rp,0,none⟩)] w fun e' w'=>e'=.returned (.bool (qe3 Ts i))∧Below w.heap.size w w':=by
 have OM:=hg.word _ (qhq h.lt);have HB2:Hid ((tok Ts i).k=2→qe3 Ts i=true):=fun h2=>by unfold qe3;rw[h2];rfl
 have EQ:Hid ((tok Ts i).k=7→qe3 Ts i=((tok Ts i).t==[40])):=fun h7=>by
  unfold qe3;rw[qd5 (by rw[h7];decide)];unfold isT;rw[h7];simp
 have HB1:Hid ((tok Ts i).k=1→qe3 Ts i=qiq.contains (tok Ts i).t):=fun h1=>qoh h1 (fun e=>by have:=OM.1 h1;rw[e] at this;simp at this)
 have HB0:Hid ((tok Ts i).k≠1→(tok Ts i).k≠2→(tok Ts i).k≠7→qe3 Ts i=false):=fun h1 h2 h7=>by
  unfold qe3;rw[qd5 h1];have e:∀k s,(tok Ts i).k≠k→isT Ts k s i=false:=fun k s hk=>by
   unfold isT;have:((tok Ts i).k==k)=false:=by simpa using hk
   rw[this];rfl
  rw[e _ _ h7,e _ _ h1];have:((tok Ts i).k==2)=false:=by simpa using h2
  rw[this];rfl
 obtain⟨z,hz⟩:∃z,z=tok Ts i:=⟨_,rfl⟩;rw[←hz] at HB2 EQ HB1 HB0;have HZ:=qaa hz;have D:=qaa h;clear hz h OM hg;generalize qe3 Ts i=bb at *;go_enter Tryz.func87,Tryz.ntmps87;go_upto_region 1 with fail
 have HQ:Hid (∀V,Below w.heap.size w V→(V.cell? ⟨rp,0,none⟩=some (.slice (some ⟨g,0,none⟩) Ts.length cap)∧V.cell? ⟨rp,1,none⟩=some (.int .i64 (i:Nat)))∧V.cell? ⟨g,i*6,none⟩=some (.int .i64 z.k)∧V.cell? ⟨g,i*6+1,none⟩=some (.string ⟨z.t.toArray⟩)∧V.cell? ⟨g,i*6+2,none⟩=some (.int .i64 z.n)∧V.cell? ⟨g,i*6+3,none⟩=some (.int .i64 z.a)∧V.cell? ⟨g,i*6+4,none⟩=some (.int .i64 z.b)∧V.cell? ⟨g,i*6+5,none⟩=some (.int .i64 z.p)):=fun V y=>by
  have h:=D.out.below y;rw[HZ.out];exact⟨h.two,h.cells⟩
 have hlt:(i:Int)<Ts.length:=by have:=D.out.lt;omega
 refine qam (S:=fun V=>Below w.heap.size w V) 11 (by kernel_rfl) ?_;have Bb:Hid (Below w.heap.size w w.drew):=Yj.drew;generalize w.drew=vd at *;refine qac.tk 0 rfl 4 Bb.out (fun a b=>by obtain⟨⟨_,_⟩,_,_,_,_,_,_⟩:=HQ.out a b;go_simp;first|done|rfl) ?_
 try simp only[Act.put,Ya,Yb,Yc]
 refine qac.tk 1 rfl 5 Bb.out (fun a b=>by obtain⟨⟨_,_⟩,_,_,_,_,_,_⟩:=HQ.out a b;go_simp;first|done|rfl) ?_
 try simp only[Act.put,Ya,Yb,Yc]
 refine qac.tk 2 rfl 6 Bb.out (fun a b=>by obtain⟨⟨_,_⟩,_,_,_,_,_,_⟩:=HQ.out a b;go_simp;first|done|rfl) ?_
 try simp only[Act.put,Ya,Yb,Yc]
 refine qac.tk 3 rfl 7 Bb.out (fun a b=>by obtain⟨⟨_,_⟩,_,_,_,_,_,_⟩:=HQ.out a b;go_simp;first|done|rfl) ?_
 try simp only[Act.put,Ya,Yb,Yc]
 refine qac.tk 4 rfl 8 Bb.out (fun a b=>by obtain⟨⟨_,_⟩,_,_,_,_,_,_⟩:=HQ.out a b;go_simp;first|done|rfl) ?_
 try simp only[Act.put,Ya,Yb,Yc]
 refine qac.tk 5 rfl 9 Bb.out (fun a b=>by obtain⟨⟨_,_⟩,_,_,_,_,_,_⟩:=HQ.out a b;go_simp;first|done|rfl) ?_
 try simp only[Act.put,Ya,Yb,Yc]
 refine qac.tk 6 rfl 10 Bb.out (fun a b=>by obtain⟨⟨_,_⟩,_,_,_,_,_,_⟩:=HQ.out a b;go_simp;first|done|rfl) ?_
 try simp only[Act.put,Ya,Yb,Yc]
 refine qac.tk 7 rfl 11 Bb.out (fun a b=>by obtain⟨⟨_,_⟩,_,_,_,_,_,_⟩:=HQ.out a b;go_simp;first|done|rfl) ?_
 try simp only[Act.put,Ya,Yb,Yc]
 refine qac.tk 8 rfl 12 Bb.out (fun a b=>by obtain⟨⟨_,_⟩,_,_,_,_,_,_⟩:=HQ.out a b;go_simp;first|done|rfl) ?_
 try simp only[Act.put,Ya,Yb,Yc]
 refine qac.tk 9 rfl 13 Bb.out (fun a b=>by obtain⟨⟨_,_⟩,_,_,_,_,_,_⟩:=HQ.out a b;go_simp;first|done|rfl) ?_
 try simp only[Act.put,Ya,Yb,Yc]
 have BL:Hid (Below w.heap.size w (vd.alloc (.cells #[.int .i64 0,.string ⟨#[]⟩,.int .i64 0,.int .i64 0,.int .i64 0,.int .i64 0] 49))):=al Bb.out _;refine qac.stq 10 rfl fun K hK=>?_
 go_simp;refine hK _ _ BL.out ?_;clear hK K
 try simp only[Act.put,Ya,Yb,Yc]
 refine qac.lst rfl fun K hK=>?_
 go_simp;refine hK _ _ ?_;clear hK K hlt BL;have XT:Hid (Below w.heap.size w (vd.alloc (.cells #[.int .i64 z.k,.string ⟨z.t.toArray⟩,.int .i64 z.n,.int .i64 z.a,.int .i64 z.b,.int .i64 z.p] 49))):=al Bb.out _;have PB:=qaa (Yh vd (.cells #[.int .i64 z.k,.string ⟨z.t.toArray⟩,.int .i64 z.n,.int .i64 z.a,.int .i64 z.b,.int .i64 z.p] 49));obtain⟨PT,hPT⟩:∃P,P=vd.heap.size:=⟨_,rfl⟩;have EE:Hid (w.heap.size≤PT):=by rw[hPT];exact Bb.out.size
 rw[←hPT] at PB
 try rw[←hPT]
 clear HQ Bb hPT;generalize vd.alloc (.cells #[.int .i64 z.k,.string ⟨z.t.toArray⟩,.int .i64 z.n,.int .i64 z.a,.int .i64 z.b,.int .i64 z.p] 49)=wt at *;have g0:wt.cell? ⟨PT,0,none⟩=some (.int .i64 z.k):=by rw[Ye _ _ _ _ _ _ PB.out];rfl
 have g1:wt.cell? ⟨PT,1,none⟩=some (.string ⟨z.t.toArray⟩):=by rw[Ye _ _ _ _ _ _ PB.out];rfl
 obtain⟨tt,Lr⟩:∃tt,tt=z.t:=⟨_,rfl⟩;rw[←Lr] at g1 EQ HB1;clear Lr;by_cases h2:z.k=2
 ·have HB:=qaa (HB2.out h2)
  have b2:(z.k==2)=true:=by simpa using h2
  clear h2 HB1 HB2 EQ HB0;go_wp2;go_ret;exact⟨by rw[HB.out];rfl,XT.out⟩
 ·have b2:(z.k==2)=false:=by simpa using h2
  by_cases h7:z.k=7
  ·have HB:=qaa (EQ.out h7)
   have b7:(z.k==7)=true:=by simpa using h7
   clear h2 h7 HB1 HB2 EQ HB0;go_wp2;go_ret;exact⟨by rw[HB.out];rfl,XT.out⟩
  ·have b7:(z.k==7)=false:=by simpa using h7
   by_cases h1:z.k=1
   ·have HB:=qaa (HB1.out h1)
    have b1:(z.k==1)=true:=by simpa using h1
    clear h1 h2 h7;cases hb:qiq.contains tt with
    |true=>
     rw[hb] at HB;have hm:tt∈qiq:=by simpa using hb
     simp only[qiq,List.mem_cons,List.not_mem_nil,or_false] at hm;clear hb HB1 HB2 EQ HB0;rcases hm with rfl|rfl|rfl|rfl|rfl|rfl|rfl|rfl|rfl
     all_goals
      go_wp2;go_ret;exact⟨by rw[HB.out];rfl,XT.out⟩
    |false=>
     rw[hb] at HB;have hm:∀t∈qiq,¬tt=t:=fun t ht e=>by
      rw[e] at hb;simp[ht] at hb
     simp only[qiq,List.mem_cons,List.not_mem_nil,or_false,forall_eq_or_imp,forall_eq] at hm;clear hb HB1 HB2 EQ HB0;obtain⟨m1,m2,m3,m4,m5,m6,m7,m8,m9⟩:=hm;have t1:(tt==[110,111,116])=false:=by simpa using m1
     have t2:(tt==[116,114,117,101])=false:=by simpa using m2
     have t3:(tt==[102,97,108,115,101])=false:=by simpa using m3
     have t4:(tt==[97,100,100,114])=false:=by simpa using m4
     have t5:(tt==[112,111,114,116])=false:=by simpa using m5
     have t6:(tt==[109,101,116,104,111,100])=false:=by simpa using m6
     have t7:(tt==[112,97,116,104])=false:=by simpa using m7
     have t8:(tt==[104,101,97,100,101,114])=false:=by simpa using m8
     have t9:(tt==[104,97,115])=false:=by simpa using m9
     go_wp2;go_ret;exact⟨by rw[HB.out];rfl,XT.out⟩
   ·have b1:(z.k==1)=false:=by simpa using h1
    have HB:=qaa (HB0.out h1 h2 h7);clear h1 h2 h7;go_wp2;go_ret;exact⟨by rw[HB.out];rfl,XT.out⟩
theorem TcA.frame {F:Nat→Prop} {w w':World} {base cp:Nat} {c:CT} {v3 v4 v5:Value} (h:TcA w base cp c v3 v4 v5) (hk:Kept F w w') (hF:∀k,F k→k<base):TcA w' base cp c v3 v4 v5:=by
 have ow:∀ {e:TypeId} {size n:Nat} {v:Value} {xs:List Value},w.ownsRow base e size v n xs→w'.ownsRow base e size v n xs:=fun ho=>qai ho hk (fun k h1 h2=>by
  have:=(World.ownsRow.lt ho k h1).1;have:=hF k h2;omega)
 exact⟨(hk.block cp (Yd h.blk) (fun hf=>by have:=hF cp hf;have:=h.bas;omega)).trans h.blk,ow h.o3,ow h.o4,ow h.o5,h.kids,h.bas⟩
theorem TcA.setK {w:World} {base cp:Nat} {c:CT} {v3 v4 v5:Value} (h:TcA w base cp c v3 v4 v5) (k:Int):TcA (w.setCell ⟨cp,0,none⟩ (.int .i64 k)) base cp (.mk k c.nm c.tx c.pre c.sp c.ns c.kids c.p) v3 v4 v5:=by
 have K:Kept (fun j=>j=cp) w (w.setCell ⟨cp,0,none⟩ (.int .i64 k)):=Kept.setCell (F:=fun j=>j=cp) (p:=⟨cp,0,none⟩) (Kept.refl _ _) rfl _;have ow:∀ {e:TypeId} {size n:Nat} {v:Value} {xs:List Value},w.ownsRow base e size v n xs→e≠60→(w.setCell ⟨cp,0,none⟩ (.int .i64 k)).ownsRow base e size v n xs:=fun ho he=>qa6 ho K (fun j hj=>by have hj:j=cp:=hj;subst hj;exact⟨_,60,_,h.blk,fun e=>he e.symm⟩)
 refine⟨?_,ow h.o3 (by decide),ow h.o4 (by decide),ow h.o5 (by decide),h.kids,h.bas⟩;have:=qab h.blk 0 (.int .i64 k);simpa [CT.k,CT.nm,CT.tx,CT.p] using this
section
variable {w0 w6:World} {base cp g6 cap6:Nat} {c:CT} {v3 v4 v5:Value}
theorem qc4 {e size n:Nat} {v:Value} {xs:List Value} (ho:w0.ownsRow base e size v n xs) (hg:w0.grownBy w6 v.ownBlock) (hb:base≤cp) (u:Value) (o:Nat):Kept (fun k=>base≤k) w0 (w6.setCell ⟨cp,o,none⟩ u):=
 ((qae hg).mono (fun k hk=>(World.ownsRow.lt ho k hk).1)).trans ((Kept.setCell (F:=fun j=>j=cp) (p:=⟨cp,o,none⟩) (Kept.refl _ _) rfl _).mono (fun k hk=>by rw[hk];exact hb))
theorem TcA.push3 {a b:Int} (h:TcA w0 base cp c v3 v4 v5) (hg:w0.grownBy w6 v3.ownBlock) (hr:w6.ownsRow base 47 2 (.slice (some ⟨g6,0,none⟩) (c.pre.length+1) cap6) (c.pre.length+1) (prC c.pre++[.int .i64 a,.int .i64 b])):
 TcA (w6.setCell ⟨cp,3,none⟩ (.slice (some ⟨g6,0,none⟩) (c.pre.length+1) cap6)) base cp (.mk c.k c.nm c.tx (c.pre++[(a,b)]) c.sp c.ns c.kids c.p) (.slice (some ⟨g6,0,none⟩) (c.pre.length+1) cap6) v4 v5:=by
 have K1:=qae hg;have HC:∀k,v3.ownBlock=some k→∃cs t f,w0.heap[k]? =some (.cells cs t f)∧t=47:=fun k hk=>by
  obtain⟨cs,h5⟩:=qaw h.o3 k hk;exact⟨cs,47,_,h5,rfl⟩
 have B6:=(K1.block cp (Yd h.blk) (fun hf=>by obtain⟨cs,t,f,h5,h6⟩:=HC cp hf;exact qar h.blk h5 (by rw[h6];decide) rfl)).trans h.blk;have ow:∀ {e:TypeId} {size n:Nat} {v:Value} {xs:List Value},w0.ownsRow base e size v n xs→e≠47→w6.ownsRow base e size v n xs:=fun ho he=>qa6 ho K1 (fun k hk=>by obtain⟨cs,t,f,h5,h6⟩:=HC k hk;exact⟨cs,t,f,h5,by rw[h6];exact fun e=>he e.symm⟩)
 have K2:Kept (fun j=>j=cp) w6 (w6.setCell ⟨cp,3,none⟩ (.slice (some ⟨g6,0,none⟩) (c.pre.length+1) cap6)):=Kept.setCell (F:=fun j=>j=cp) (p:=⟨cp,3,none⟩) (Kept.refl _ _) rfl _;have ow2:∀ {e:TypeId} {size n:Nat} {v:Value} {xs:List Value},w6.ownsRow base e size v n xs→e≠60→(w6.setCell ⟨cp,3,none⟩ (.slice (some ⟨g6,0,none⟩) (c.pre.length+1) cap6)).ownsRow base e size v n xs:=fun ho he=>qa6 ho K2 (fun j hj=>by have hj:j=cp:=hj;subst hj;exact⟨_,60,_,B6,fun e=>he e.symm⟩)
 refine⟨?_,ow2 (by show w6.ownsRow base 47 2 _ (c.pre++[(a,b)]).length (prC (c.pre++[(a,b)]));rw[List.length_append,qfe];exact hr) (by decide),ow2 (ow h.o4 (by decide)) (by decide),ow2 (ow h.o5 (by decide)) (by decide),h.kids,h.bas⟩;have:=qab B6 3 (.slice (some ⟨g6,0,none⟩) (c.pre.length+1) cap6);simpa [CT.k,CT.nm,CT.tx,CT.p] using this
theorem TcA.push4 {a b:Int} (h:TcA w0 base cp c v3 v4 v5) (hg:w0.grownBy w6 v4.ownBlock) (hr:w6.ownsRow base 68 2 (.slice (some ⟨g6,0,none⟩) (c.sp.length+1) cap6) (c.sp.length+1) (prC c.sp++[.int .i64 a,.int .i64 b])):
 TcA (w6.setCell ⟨cp,4,none⟩ (.slice (some ⟨g6,0,none⟩) (c.sp.length+1) cap6)) base cp (.mk c.k c.nm c.tx c.pre (c.sp++[(a,b)]) c.ns c.kids c.p) v3 (.slice (some ⟨g6,0,none⟩) (c.sp.length+1) cap6) v5:=by
 have K1:=qae hg;have HC:∀k,v4.ownBlock=some k→∃cs t f,w0.heap[k]? =some (.cells cs t f)∧t=68:=fun k hk=>by
  obtain⟨cs,h5⟩:=qaw h.o4 k hk;exact⟨cs,68,_,h5,rfl⟩
 have B6:=(K1.block cp (Yd h.blk) (fun hf=>by obtain⟨cs,t,f,h5,h6⟩:=HC cp hf;exact qar h.blk h5 (by rw[h6];decide) rfl)).trans h.blk;have ow:∀ {e:TypeId} {size n:Nat} {v:Value} {xs:List Value},w0.ownsRow base e size v n xs→e≠68→w6.ownsRow base e size v n xs:=fun ho he=>qa6 ho K1 (fun k hk=>by obtain⟨cs,t,f,h5,h6⟩:=HC k hk;exact⟨cs,t,f,h5,by rw[h6];exact fun e=>he e.symm⟩)
 have K2:Kept (fun j=>j=cp) w6 (w6.setCell ⟨cp,4,none⟩ (.slice (some ⟨g6,0,none⟩) (c.sp.length+1) cap6)):=Kept.setCell (F:=fun j=>j=cp) (p:=⟨cp,4,none⟩) (Kept.refl _ _) rfl _;have ow2:∀ {e:TypeId} {size n:Nat} {v:Value} {xs:List Value},w6.ownsRow base e size v n xs→e≠60→(w6.setCell ⟨cp,4,none⟩ (.slice (some ⟨g6,0,none⟩) (c.sp.length+1) cap6)).ownsRow base e size v n xs:=fun ho he=>qa6 ho K2 (fun j hj=>by have hj:j=cp:=hj;subst hj;exact⟨_,60,_,B6,fun e=>he e.symm⟩)
 refine⟨?_,ow2 (ow h.o3 (by decide)) (by decide),ow2 (by show w6.ownsRow base 68 2 _ (c.sp++[(a,b)]).length (prC (c.sp++[(a,b)]));rw[List.length_append,qfe];exact hr) (by decide),ow2 (ow h.o5 (by decide)) (by decide),h.kids,h.bas⟩;have:=qab B6 4 (.slice (some ⟨g6,0,none⟩) (c.sp.length+1) cap6);simpa [CT.k,CT.nm,CT.tx,CT.p] using this
theorem TcA.push5 {t:By} (h:TcA w0 base cp c v3 v4 v5) (hg:w0.grownBy w6 v5.ownBlock) (hr:w6.ownsRow base 9 1 (.slice (some ⟨g6,0,none⟩) (c.ns.length+1) cap6) (c.ns.length+1) (nsC c.ns++[.string ⟨t.toArray⟩])):
 TcA (w6.setCell ⟨cp,5,none⟩ (.slice (some ⟨g6,0,none⟩) (c.ns.length+1) cap6)) base cp (.mk c.k c.nm c.tx c.pre c.sp (c.ns++[t]) c.kids c.p) v3 v4 (.slice (some ⟨g6,0,none⟩) (c.ns.length+1) cap6):=by
 have K1:=qae hg;have HC:∀k,v5.ownBlock=some k→∃cs t f,w0.heap[k]? =some (.cells cs t f)∧t=9:=fun k hk=>by
  obtain⟨cs,h5⟩:=qaw h.o5 k hk;exact⟨cs,9,_,h5,rfl⟩
 have B6:=(K1.block cp (Yd h.blk) (fun hf=>by obtain⟨cs,t,f,h5,h6⟩:=HC cp hf;exact qar h.blk h5 (by rw[h6];decide) rfl)).trans h.blk;have ow:∀ {e:TypeId} {size n:Nat} {v:Value} {xs:List Value},w0.ownsRow base e size v n xs→e≠9→w6.ownsRow base e size v n xs:=fun ho he=>qa6 ho K1 (fun k hk=>by obtain⟨cs,t,f,h5,h6⟩:=HC k hk;exact⟨cs,t,f,h5,by rw[h6];exact fun e=>he e.symm⟩)
 have K2:Kept (fun j=>j=cp) w6 (w6.setCell ⟨cp,5,none⟩ (.slice (some ⟨g6,0,none⟩) (c.ns.length+1) cap6)):=Kept.setCell (F:=fun j=>j=cp) (p:=⟨cp,5,none⟩) (Kept.refl _ _) rfl _;have ow2:∀ {e:TypeId} {size n:Nat} {v:Value} {xs:List Value},w6.ownsRow base e size v n xs→e≠60→(w6.setCell ⟨cp,5,none⟩ (.slice (some ⟨g6,0,none⟩) (c.ns.length+1) cap6)).ownsRow base e size v n xs:=fun ho he=>qa6 ho K2 (fun j hj=>by have hj:j=cp:=hj;subst hj;exact⟨_,60,_,B6,fun e=>he e.symm⟩)
 refine⟨?_,ow2 (ow h.o3 (by decide)) (by decide),ow2 (ow h.o4 (by decide)) (by decide),ow2 (by show w6.ownsRow base 9 1 _ (c.ns++[t]).length (nsC (c.ns++[t]));rw[List.length_append,qka];exact hr) (by decide),h.kids,h.bas⟩;have:=qab B6 5 (.slice (some ⟨g6,0,none⟩) (c.ns.length+1) cap6);simpa [CT.k,CT.nm,CT.tx,CT.p] using this
end
def Lv {α:Type} (x:PR α) (y:Nat→PR α) (i:Nat) (e q:Int):Prop:=(e=0∧q=0∧x=y i)∨(e≠0∧x=.bad e q)
theorem Lv.dead {α:Type} {x:PR α} {y y':Nat→PR α} {i i':Nat} {e q:Int} (h:Lv x y i e q) (he:e≠0):Lv x y' i' e q:=by
 rcases h with⟨h1,_⟩|⟨_,h2⟩
 ·exact absurd h1 he
 ·exact .inr ⟨he,h2⟩
theorem Lv.map {α:Type} {x:PR α} {y y':Nat→PR α} {i:Nat} {e q:Int} (h:Lv x y i e q) (hy:y i=y' i):Lv x y' i e q:=by
 rcases h with⟨h1,h2,h3⟩|h
 ·exact .inl ⟨h1,h2,h3.trans hy⟩
 ·exact .inr h
section
variable {w:World} {base rp g cap:Nat} {Ts:List Tk} {i:Nat} {e q:Int} {α:Type} {x:PR α}
theorem qa8 {y:Nat→PR α} {s:By} {kind:Int} (hs:∀l,l<Ts.length→isS Ts s l=isT Ts kind s l) (h:DpA w base rp g cap Ts i e q) (hl:Lv x (fun l=>(qak Ts kind s l).bind fun _ j=>y j) i e q):
 Calls Tryz.prog 57 #[.pointer (some ⟨rp,0,none⟩),.string ⟨s.toArray⟩] w fun e' w'=>e'=.returned (.tuple #[])∧∃i' e1 q1,DpA w' base rp g cap Ts i' e1 q1∧Lv x y i' e1 q1∧(e1=0→e=0∧i'=i+1)∧Kept (fun k=>k=rp) w w':=by
 rcases hl with⟨h1,h2,h3⟩|⟨h1,h2⟩
 ·subst h1
  subst h2;dsimp only at h3;have hsi:=hs i h.lt;by_cases ht:isT Ts kind s i=true
  ·refine(qqe h (hsi.trans ht)).mono ?_
   rintro e' w' ⟨r1,r2,r3⟩;exact⟨r1,_,_,_,r2,.inl ⟨rfl,rfl,by rw[h3];unfold qak;rw[if_pos ht];rfl⟩,fun _=>⟨rfl,rfl⟩,r3⟩
  ·refine(qof h (by rw[hsi];simpa using ht)).mono ?_
   rintro e' w' ⟨r1,r2,r3⟩;exact⟨r1,_,_,_,r2,.inr ⟨by decide,by rw[h3];unfold qak;rw[if_neg ht];rfl⟩,fun hb=>absurd hb (by decide),r3⟩
 ·refine(qly h h1 s).mono ?_
  rintro e' w' ⟨r1,r2⟩;exact⟨r1,_,_,_,h.below r2,.inr ⟨h1,h2⟩,fun hb=>absurd hb h1,Kept.of_below r2⟩
theorem qcl {y:Tk→Nat→PR α} {kind:Int} (h8:kind≠8) (h:DpA w base rp g cap Ts i e q) (hl:Lv x (fun l=>(qa9 Ts kind l).bind fun t j=>y t j) i e q):
 Calls Tryz.prog 56 #[.pointer (some ⟨rp,0,none⟩),.int .i64 kind] w fun e' w'=>∃z i' e1 q1,e'=.returned (.agg #[.int .i64 z.k,.string ⟨z.t.toArray⟩,.int .i64 z.n,.int .i64 z.a,.int .i64 z.b,.int .i64 z.p])∧DpA w' base rp g cap Ts i' e1 q1∧Lv x (y z) i' e1 q1∧(e1=0→e=0∧i'=i+1∧z=tok Ts i∧(tok Ts i).k=kind)∧Kept (fun k=>k=rp) w w':=by
 rcases hl with⟨h1,h2,h3⟩|⟨h1,h2⟩
 ·subst h1
  subst h2;dsimp only at h3;by_cases hk:(tok Ts i).k=kind
  ·refine(qqf h hk h8).mono ?_
   rintro e' w' ⟨r1,r2,r3⟩;exact⟨tok Ts i,_,_,_,r1,r2,.inl ⟨rfl,rfl,by rw[h3,qcb hk];rfl⟩,fun _=>⟨rfl,rfl,rfl,hk⟩,r3⟩
  ·refine(qog h hk).mono ?_
   rintro e' w' ⟨r1,r2,r3⟩;exact⟨z0,_,_,_,r1,r2,.inr ⟨by decide,by rw[h3,qcn hk];rfl⟩,fun hb=>absurd hb (by decide),r3⟩
 ·refine(qlz h h1).mono ?_
  rintro e' w' ⟨r1,r2⟩;exact⟨z0,_,_,_,r1,h.below r2,.inr ⟨h1,h2⟩,fun hb=>absurd hb h1,Kept.of_below r2⟩
theorem qcv {y1 y2:Nat→PR α} {s:By} {kind:Int} (hs:∀l,l<Ts.length→isS Ts s l=isT Ts kind s l) (h:DpA w base rp g cap Ts i e q) (hl:Lv x (fun l=>if isT Ts kind s l=true then y1 (l+1) else y2 l) i e q):
 Calls Tryz.prog 85 #[.pointer (some ⟨rp,0,none⟩),.string ⟨s.toArray⟩] w fun e' w'=>∃b i' e1 q1,e'=.returned (.bool b)∧DpA w' base rp g cap Ts i' e1 q1∧(b=true→e=0∧e1=0∧q1=0∧i'=i+1∧isT Ts kind s i=true∧x=y1 i')∧(b=false→i'=i∧(e1=0→e=0)∧Lv x y2 i' e1 q1)∧Kept (fun k=>k=rp) w w':=by
 rcases hl with⟨h1,h2,h3⟩|⟨h1,h2⟩
 ·subst h1
  subst h2;dsimp only at h3;have hsi:=hs i h.lt;by_cases ht:isT Ts kind s i=true
  ·refine(qkw h (hsi.trans ht)).mono ?_
   rintro e' w' ⟨r1,r2,r3⟩;exact⟨true,_,_,_,r1,r2,fun _=>⟨rfl,rfl,rfl,rfl,ht,by rw[h3,if_pos ht]⟩,fun hb=>(by cases hb),r3⟩
  ·refine(qoe h (by rw[hsi];simpa using ht)).mono ?_
   rintro e' w' ⟨r1,r2⟩;exact⟨false,_,_,_,r1,h.below r2,fun hb=>(by cases hb),fun _=>⟨rfl,fun _=>rfl,.inl ⟨rfl,rfl,by rw[h3,if_neg ht]⟩⟩,Kept.of_below r2⟩
 ·refine(qio h h1 s).mono ?_
  rintro e' w' ⟨r1,r2⟩;exact⟨false,_,_,_,r1,h.below r2,fun hb=>(by cases hb),fun _=>⟨rfl,fun hb=>absurd hb h1,.inr ⟨h1,h2⟩⟩,Kept.of_below r2⟩
theorem qoi (h:DpA w base rp g cap Ts i e q) (hl:Lv x (fun l=>.bad 90 (tok Ts l).p) i e q):
 Calls Tryz.prog 55 #[.pointer (some ⟨rp,0,none⟩)] w fun e' w'=>e'=.returned (.tuple #[])∧∃i' e1 q1,DpA w' base rp g cap Ts i' e1 q1∧e1≠0∧x=.bad e1 q1∧Kept (fun k=>k=rp) w w':=by
 rcases hl with⟨h1,h2,h3⟩|⟨h1,h2⟩
 ·subst h1
  subst h2;dsimp only at h3;refine(qcr h).mono ?_;rintro e' w' ⟨r1,r2,r3⟩;exact⟨r1,_,_,_,r2,by decide,h3,r3⟩
 ·refine(qb9 h h1).mono ?_
  rintro e' w' ⟨r1,r2⟩;exact⟨r1,_,_,_,h.below r2,h1,h2,Kept.of_below r2⟩
end
theorem PR.assoc {α β γ:Type} (x:PR α) (f:α→Nat→PR β) (h:β→Nat→PR γ):(x.bind f).bind h=x.bind fun a i=>(f a i).bind h:=by
 cases x<;>rfl
end Go.Proofs.YtlmhofjiobmodaaGreatDoor

