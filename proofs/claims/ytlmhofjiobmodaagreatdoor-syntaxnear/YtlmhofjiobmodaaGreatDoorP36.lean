/-
  awake answers true. Condition: what the library's variable holds lies below.
-/
import Derived.Test.YtlmhofjiobmodaaGreatDoorP35
import Derived.Test.YtlmhofjiobmodaaGreatDoorP03
import Derived.Laws.StructEq
import Derived.Test.YtlmhofjiobmodaaGreatDoorP34
import Derived.Test.YtlmhofjiobmodaaGreatDoorP05
import Derived.Test.YtlmhofjiobmodaaGreatDoorP06
import Derived.Deep.RegionHeld3
import Derived.Test.YtlmhofjiobmodaaGreatDoorP19
set_option maxRecDepth 100000
set_option maxHeartbeats 16000000
namespace Go.Proofs.YtlmhofjiobmodaaGreatDoor
open Go.RowKit Go.Lib
theorem qty (w:World):(Instr.build 62 #[]).run Tryz.prog w=.ok (.agg zit) w:=by kernel_rfl
theorem qrv (w:World):(w.alloc (.cells zit 62)).ownsRow w.heap.size 62 11 (.slice (some ⟨w.heap.size,0,none⟩) 1 1) 1 zit.toList:=
 ⟨rfl,.inr ⟨w.heap.size,1,zit,rfl,Nat.le_refl _,Yh w _,Nat.le_refl _,by unfold maxLen;omega,rfl,rfl⟩⟩
theorem qn7 (w:World) (hev:qfx w.heap.size w):Calls Tryz.prog 10 #[] w fun e w'=>e=.returned (.bool true)∧Below w.heap.size w w':=by
 have Jg:Hid (Calls Tryz.prog 11 #[.string ⟨qti.toArray⟩] w fun e w'=>(∃v cs bs,e=.returned (.tuple #[.agg #[v],.int .i64 0,.int .i64 0])∧qcy w' w.heap.size qjo v cs bs)∧Below w.heap.size w w'):=by
  refine(qf9 qti w hev).mono ?_;rintro e w' ⟨h1,h2⟩;unfold qf8 at h1;rw[qsx] at h1;exact⟨h1,h2⟩
 have MP:Hid (∀V,Below w.heap.size w V→Calls Tryz.prog 11 #[.string ⟨qtj.toArray⟩] V fun e w'=>e=.returned (.tuple #[.agg #[.slice none 0 0],.int .i64 90,.int .i64 8])∧Below V.heap.size V w'):=fun V y=>by
  refine(qf9 qtj V (hev.up y)).mono ?_;rintro e w' ⟨h1,h2⟩;unfold qf8 at h1;rw[qsy] at h1;exact⟨h1,h2⟩
 unfold qti at Jg;unfold qtj at MP;clear hev;go_enter Tryz.func10,Tryz.ntmps10;go_upto_region 1 with fail
 go_wp2_with (fail);refine Jg.out.mono ?_;rintro e w1 ⟨⟨v,cs,bs,rfl,hpo⟩,x1⟩;obtain⟨g,g6,g7,g8,cp,c6,c7,c8,a3,a4,a5,n3,n4,n5,rfl,hf⟩:=qqa hpo;have HF:=qaa hf;have JJ:=qaa hpo;have X1:=qaa x1;clear hpo x1 Jg hf;have XW:=qaa (show Below w1.heap.size w1 (w1.alloc (.cells #[.slice (some ⟨g,0,none⟩) 1 cp] 36)) from al Yj _);have HB:=qaa (Yh w1 (.cells #[.slice (some ⟨g,0,none⟩) 1 cp] 36));go_upto_region 2 with fail
 obtain⟨P,hP⟩:∃P,P=w1.heap.size:=⟨_,rfl⟩;rw[←hP] at HB ⊢;clear hP;generalize w1.alloc (.cells #[.slice (some ⟨g,0,none⟩) 1 cp] 36)=w2 at *;have q0:w2.cell? ⟨P,0,none⟩=some (.slice (some ⟨g,0,none⟩) 1 cp):=by rw[Ye _ _ _ _ _ _ HB.out];rfl
 have MQ:=qaa (qkt (L:=qjo) (y:=(qtk,true)) (by decide) (fun x hx=>by rw[List.mem_singleton.1 hx];exact qsz) (JJ.out.below XW.out) qq0);unfold qtk at MQ;go_upto_region 3 with(go_at_call 20;refine MQ.out.mono ?_;rintro e w3 ⟨rfl,x3⟩;have X3:=qaa x3;clear x3)
 clear MQ q0;have XA:=qaa (bt XW.out X3.out Yi);have HB3:=qaa ((X3.out.block P (Yd HB.out)).trans HB.out);clear HB X3 XW;have Oj:=qaa (MP.out w3 (bt X1.out XA.out Yi));go_wp2_with (fail);refine Oj.out.mono ?_;rintro e w4 ⟨rfl,x4⟩;have X4:=qaa (bt x4 (show Below w4.heap.size w4 (w4.alloc (.cells #[.slice none 0 0] 36)) from al Yj _) Yi);clear x4 Oj MP;go_upto_region 4 with fail
 have Ol:=qaa (bt XA.out X4.out Yi);have ED:=qaa ((X4.out.block P (Yd HB3.out)).trans HB3.out);generalize w4.alloc (.cells #[.slice none 0 0] 36)=w5 at *;clear X4 XA HB3;have hbl:=qty;unfold zit at hbl;have HZ:=qaa (qlw (qrv w5));unfold zit at HZ;have XZ:Hid (Below w5.heap.size w5 (w5.alloc (.cells #[.int .i64 0,.string ⟨#[]⟩,.int .i64 0,.string ⟨#[]⟩,.string ⟨#[]⟩,.slice none 0 0,.slice none 0 0,.slice none 0 0,.slice none 0 0,.int .i64 0,.int .i64 0] 62))):=al Yj _;go_upto_region 5 with(go_at_call 20;refine HZ.out.mono ?_;rintro e w6 ⟨rfl,x6⟩;have X6:=qaa (bt XZ.out x6 Yi);clear x6)
 clear hbl HZ XZ;have MR:=qaa (bt Ol.out X6.out Yi);have Mq:=qaa ((X6.out.block P (Yd ED.out)).trans ED.out);clear ED X6 Ol;have q0:w6.cell? ⟨P,0,none⟩=some (.slice (some ⟨g,0,none⟩) 1 cp):=by rw[Ye _ _ _ _ _ _ Mq.out];rfl
 go_upto_region 7 with fail
 have GM:=qaa (HF.out w6 MR.out);have r0:=GM.out.row 0 (by omega);have r1:=GM.out.row 1 (by omega);have r2:=GM.out.row 2 (by omega);have r3:=GM.out.row 3 (by omega);have r4:=GM.out.row 4 (by omega);have r5:=GM.out.row 5 (by omega);have r6:=GM.out.row 6 (by omega);have r7:=GM.out.row 7 (by omega);simp only[List.getElem?_cons_zero,List.getElem?_cons_succ] at r0 r1 r2 r3 r4 r5 r6 r7;have HC:=qaa (Yh w6 (.cells #[.int .i64 5,.string ⟨#[]⟩,.string ⟨#[]⟩,.slice a3 0 n3,.slice a4 0 n4,.slice a5 0 n5,.slice (some ⟨g6,0,none⟩) 2 c6,.int .i64 8] 60));have XC:Hid (Below w6.heap.size w6 (w6.alloc (.cells #[.int .i64 5,.string ⟨#[]⟩,.string ⟨#[]⟩,.slice a3 0 n3,.slice a4 0 n4,.slice a5 0 n5,.slice (some ⟨g6,0,none⟩) 2 c6,.int .i64 8] 60))):=al Yj _;go_upto_region 8 with fail
 clear r0 r1 r2 r3 r4 r5 r6 r7 q0 GM;obtain⟨C,hC⟩:∃C,C=w6.heap.size:=⟨_,rfl⟩;rw[←hC] at HC ⊢;clear hC;have MS:=qaa (bt MR.out XC.out Yi);have EQ:=qaa ((XC.out.block P (Yd Mq.out)).trans Mq.out);clear Mq MR XC;generalize w6.alloc (.cells #[.int .i64 5,.string ⟨#[]⟩,.string ⟨#[]⟩,.slice a3 0 n3,.slice a4 0 n4,.slice a5 0 n5,.slice (some ⟨g6,0,none⟩) 2 c6,.int .i64 8] 60)=w7 at *;have q0:w7.cell? ⟨P,0,none⟩=some (.slice (some ⟨g,0,none⟩) 1 cp):=by rw[Ye _ _ _ _ _ _ EQ.out];rfl
 have HR:=qaa (qp9 (L:=qjo) (y:=(qtk,true)) (by decide) (fun x hx=>by rw[List.mem_singleton.1 hx];exact qsz) (JJ.out.below MS.out) qq0);go_upto_region 9 with(go_at_call 22;refine HR.out.mono ?_;rintro e w8 ⟨rfl,x8⟩;have X8:=qaa x8;clear x8)
 clear q0 HR;have MU:=qaa (bt MS.out X8.out Yi);have Mr:=qaa ((X8.out.block P (Yd EQ.out)).trans EQ.out);have MV:=qaa ((X8.out.block C (Yd HC.out)).trans HC.out);clear EQ HC X8 MS;have q0:w8.cell? ⟨P,0,none⟩=some (.slice (some ⟨g,0,none⟩) 1 cp):=by rw[Ye _ _ _ _ _ _ Mr.out];rfl
 have HS:=qaa (qlj (L:=qjo) (f:=5) (by decide) (fun x hx=>by rw[List.mem_singleton.1 hx];exact qs0) (JJ.out.below MU.out));go_upto_region 10 with(go_at_call 24;refine HS.out.mono ?_;rintro e w9 ⟨rfl,x9⟩;have X9:=qaa x9;clear x9)
 clear q0 HS;have Pw:=qaa (bt MU.out X9.out Yi);have Px:=qaa ((X9.out.block P (Yd Mr.out)).trans Mr.out);have Om:=qaa ((X9.out.block C (Yd MV.out)).trans MV.out);clear Mr MV X9 MU;have q0:w9.cell? ⟨P,0,none⟩=some (.slice (some ⟨g,0,none⟩) 1 cp):=by rw[Ye _ _ _ _ _ _ Px.out];rfl
 have HN:=qaa (qll (some ⟨g,0,none⟩) cp);have hes:=qtt 1 9;go_wp2_with (go_at_call 24;refine(HN.out _).mono ?_;rintro e wa ⟨rfl,xa⟩;have Oo:=qaa (bt Pw.out xa Yi);have JK:=qaa ((xa.block C (Yd Om.out)).trans Om.out);clear xa q0;obtain⟨s0,s1,s2,s3,s4,s5,s6,s7⟩:=ld8 JK.out;have hfa:=HF.out _ Oo.out;have f0:=hfa.k0;have f1:=hfa.k1;have f2:=hfa.at_;have f3:=hfa.s0;have f4:=hfa.s1;clear hfa);go_ret;exact⟨rfl,bt X1.out Oo.out Yi⟩
theorem qjp {w:World} {b:Nat} {a0 a1 a2 a3 a4 a5:Value} {T:TypeId} (h:w.heap[b]? =some (.cells #[a0,a1,a2,a3,a4,a5] T (0,0))) (u0 u1 u2 u3 u4 u5:Value):
 ((((((w.setCell ⟨b,0,none⟩ u0).setCell ⟨b,1,none⟩ u1).setCell ⟨b,2,none⟩ u2).setCell ⟨b,3,none⟩ u3).setCell ⟨b,4,none⟩ u4).setCell ⟨b,5,none⟩ u5).heap[b]? =some (.cells #[u0,u1,u2,u3,u4,u5] T (0,0)):=
 qab (qab (qab (qab (qab (qab h 0 u0) 1 u1) 2 u2) 3 u3) 4 u4) 5 u5
theorem qdr {w:World} {b:Nat} {a0 a1 a2 a3 a4 a5:Value} {T:TypeId} (h:w.heap[b]? =some (.cells #[a0,a1,a2,a3,a4,a5] T (0,0))):
 (w.cell? ⟨b,0,none⟩=some a0∧w.cell? ⟨b,1,none⟩=some a1∧w.cell? ⟨b,2,none⟩=some a2∧w.cell? ⟨b,3,none⟩=some a3∧w.cell? ⟨b,4,none⟩=some a4∧w.cell? ⟨b,5,none⟩=some a5):=
 ⟨by rw[Ye w b 0 _ _ _ h];rfl,by rw[Ye w b 1 _ _ _ h];rfl,by rw[Ye w b 2 _ _ _ h];rfl,by rw[Ye w b 3 _ _ _ h];rfl,by rw[Ye w b 4 _ _ _ h];rfl,by rw[Ye w b 5 _ _ _ h];rfl⟩
theorem qn8 (rm:Bool) (o:Nat) (R:By):qbw rm o (10::R)=qbw false (o+1) R:=by
 rw[qbw.eq_def];simp only;cases rm
 ·rw[if_neg (by decide),if_pos (by decide)]
 ·rw[if_pos rfl,if_pos trivial]
theorem qrw {α β:Type} {f:α→β} {r:Except (Int×Int) α} {y:β} (h:r.map f=.ok y):∃z,r=.ok z∧f z=y:=by
 cases r with
 |error e=>cases h
 |ok z=>exact⟨z,rfl,Except.ok.inj h⟩
theorem qgr {s:By} {rm:Bool} {a:Nat} {L:List Tk} (ha:a≤s.length) (h:qbw rm a (s.drop a)=.ok L):
 (a=s.length∧L=[⟨8,[],0,0,0,a⟩])∨
 (∃ha:a<s.length,(∃rm',qbw rm' (a+1) (s.drop (a+1))=.ok L∧∀o X,qbw rm o (s[a]::X)=qbw rm' (o+1) X))∨
 (rm=false∧∃ha:a<s.length,blB (bI s[a])≠true∧s[a]≠35∧∃x n L',qct (s.drop a)=.ok (x,n)∧1≤n∧a+n≤s.length∧L={ x with p:=a }::L'∧qbw false (a+n) (s.drop (a+n))=.ok L'):=by
 rcases Nat.lt_or_ge a s.length with h'|h'
 ·refine .inr ?_
  rw[List.drop_eq_getElem_cons h',qbw.eq_def] at h;simp only at h;cases rm with
  |true=>
   rw[if_pos rfl] at h;by_cases h10:s[a]=10
   ·rw[if_pos h10] at h
    exact .inl ⟨h',false,h,fun o X=>by rw[h10];exact qn8 true o X⟩
   ·rw[if_neg h10] at h
    refine .inl ⟨h',true,h,fun o X=>?_⟩;rw[qbw.eq_def];simp only;rw[if_pos trivial,if_neg h10]
  |false=>
   rw[if_neg (by decide)] at h;by_cases hb:blB (bI s[a])=true
   ·rw[if_pos hb] at h
    refine .inl ⟨h',false,h,fun o X=>?_⟩;rw[qbw.eq_def];simp only;rw[if_neg (by decide),if_pos hb]
   ·rw[if_neg hb] at h
    by_cases h5:s[a]=35
    ·rw[if_pos h5] at h
     refine .inl ⟨h',true,h,fun o X=>?_⟩;rw[qbw.eq_def];simp only;rw[if_neg (by decide),if_neg hb,if_pos h5]
    ·rw[if_neg h5] at h
     refine .inr ⟨rfl,h',hb,h5,?_⟩;rw[←List.drop_eq_getElem_cons h'] at h;cases hO:qct (s.drop a) with
     |error e=>rw[hO] at h;cases h
     |ok p=>
      obtain⟨x,n⟩:=p;rw[hO] at h;simp only at h;obtain⟨n1,n2⟩:=qhn hO;rw[List.length_drop] at n2;obtain⟨L',h1,h2⟩:=qrw h;rw[List.drop_drop,show a+(n-1)+1=a+n by omega,show a+1+(n-1)=a+n by omega] at h1;exact⟨x,n,L',rfl,n1,by omega,h2.symm,h1⟩
 ·obtain rfl:a=s.length:=by omega
  rw[List.drop_length,qbw] at h;exact .inl ⟨rfl,(Except.ok.inj h).symm⟩
theorem qjq:∀v∈qbt,fsB v=true∧qd6 2 v=true∧v.length≤32:=by decide+kernel
theorem qn9 {s:By} (h:wdB s=true):fsB s=true∧qd6 2 s=true∧s.length≤32:=qjq s (List.contains_iff_mem.1 h)
end Go.Proofs.YtlmhofjiobmodaaGreatDoor
namespace Go.Proofs.YtlmhofjiobmodaaGreatDoor
structure Up (T:List Tk) (E:Nat):Prop where
 e8:(tok T E).k=8
 up:∀i j,i<j→j≤E→(tok T i).p<(tok T j).p
section
variable {T:List Tk} {E:Nat}
end
structure Agr (T V:List Tk) (k E:Nat):Prop where
 lo:∀i,i<k→tok V i=tok T i
 hi:tok V k=tok T k∨(tok V k).k=8
 pl:(tok V k).p=(tok T k).p
 le:k≤E
 up:Up T E
section
variable {T V:List Tk} {k E:Nat}
variable (hA:Agr T V k E)
include hA
end
end Go.Proofs.YtlmhofjiobmodaaGreatDoor
namespace Go.Proofs.YtlmhofjiobmodaaGreatDoor
open Go.RowKit Go.Lib
theorem qtz {s:By}:∀(k:Nat) (rm:Bool) (a:Nat) (L:List Tk),s.length-a≤k→a≤s.length→qbw rm a (s.drop a)=.ok L→∀(i:Nat) (hi:i<L.length),(a:Int)≤L[i].p∧L[i].p≤s.length∧∀(j:Nat) (hj:j<L.length),i<j→L[i].p<L[j].p:=by
 intro k
 induction k with
 |zero=>
  intro rm a L hk ha h i hi;rcases qgr ha h with⟨_,rfl⟩|⟨ha',_⟩|⟨_,ha',_⟩
  ·obtain rfl:i=0:=by simpa using hi
   exact⟨Int.le_refl _,by show(a:Int)≤_;omega,fun j hj h1=>by simp at hj;omega⟩
  ·omega
  ·omega
 |succ k ih=>
  intro rm a L hk ha h i hi;rcases qgr ha h with⟨_,rfl⟩|⟨ha',rm',h1,_⟩|⟨_,ha',_,_,x,n,L',_,n1,n2,rfl,h1⟩
  ·obtain rfl:i=0:=by simpa using hi
   exact⟨Int.le_refl _,by show(a:Int)≤_;omega,fun j hj h1=>by simp at hj;omega⟩
  ·obtain⟨g1,g2,g3⟩:=ih rm' (a+1) L (by omega) (by omega) h1 i hi
   exact⟨by omega,g2,g3⟩
  ·have ih2:=ih false (a+n) L' (by omega) n2 h1
   cases i with
   |zero=>
    refine⟨Int.le_refl _,by show(a:Int)≤_;omega,fun j hj h2=>?_⟩;cases j with
    |zero=>omega
    |succ j=>
     have hj':j<L'.length:=by simpa using hj
     obtain⟨g1,_⟩:=ih2 j hj';show(a:Int)<L'[j].p;omega
   |succ i=>
    have hi':i<L'.length:=by simpa using hi
    obtain⟨g1,g2,g3⟩:=ih2 i hi';refine⟨by show(a:Int)≤L'[i].p;omega,g2,fun j hj h2=>?_⟩;cases j with
    |zero=>omega
    |succ j=>exact g3 j (by simpa using hj) (by omega)
section
variable {s:By} {L:List Tk} (h:qbb s=.ok L)
include h
theorem qrx:qbw false 0 (s.drop 0)=.ok L:=by rw[List.drop_zero,←qf4 (qjm h)];exact h
omit h in
theorem qry (i:Nat) (hi:i<L.length):tok L i=L[i]:=by
 unfold tok;rw[List.getD_eq_getElem?_getD,List.getElem?_eq_getElem hi];rfl
theorem qlx (i:Nat) (hi:i<L.length):0≤(tok L i).p∧(tok L i).p≤s.length:=by
 have hu:=qtz _ _ _ _ Yi (Nat.zero_le _) (qrx h) i hi;rw[qry i hi];exact⟨hu.1,hu.2.1⟩
end
def qs1 (s:By):Int×Int:=match qdc s with
 |.ok _=>(0,0)
 |.error x=>x
section
variable {s:By} {L:List Tk} (h:qbb s=.ok L)
include h
variable {e:Int} {k:Nat} (hk:k<L.length)
include hk
end
theorem qhp (n m:Int) (w:World) (h0:0≤n) (h1:n≤281474976710656) (h2:0≤m) (h3:m≤281474976710656):Calls Tryz.prog 9 #[.int .i64 n,.int .i64 m] w fun e w'=>e=.returned (.int .i64 (qf6 n m))∧w'=w:=by
 have f1:IntKind.i64.wrap (2147483647-n)=2147483647-n:=by simp[IntKind.wrap,IntKind.bits,IntKind.signed];omega
 have f2:IntKind.i64.wrap (n+m)=n+m:=by simp[IntKind.wrap,IntKind.bits,IntKind.signed];omega
 by_cases h:2147483647-n<m
 ·have e:qf6 n m=2147483648:=by unfold qf6;rw[if_pos h]
  rw[e];go_enter Tryz.func9,Tryz.ntmps9;go_wp2;go_ret;exact⟨rfl,rfl⟩
 ·have e:qf6 n m=n+m:=by unfold qf6;rw[if_neg h]
  rw[e];go_enter Tryz.func9,Tryz.ntmps9;go_wp2;go_ret;exact⟨rfl,rfl⟩
def qmb (n:Int):Int:=qf6 n (qf6 n n)
theorem qoa {n:Int} (h:0≤n):0≤qmb n∧qmb n≤2147483648:=qe0 h (qe0 h h).1
theorem qob {n:Int} (h0:0≤n) (h:qmb n≤2147483647):n≤2147483647:=by
 unfold qmb qf6 at h;split at h<;>split at h<;>omega
theorem qgs (n:Int) (w:World) (h0:0≤n) (h1:n≤281474976710656):Calls Tryz.prog 8 #[.int .i64 n] w fun e w'=>e=.returned (.int .i64 (qmb n))∧w'=w:=by
 have HA:=qaa (fun w=>qhp n n w h0 h1 h0 h1);have HB:=qaa (fun w=>qhp n (qf6 n n) w h0 h1 (qe0 h0 h0).1 (by have:=(qe0 h0 h0).2;omega));unfold qmb;generalize qf6 n (qf6 n n)=b at *;generalize qf6 n n=a at *;clear h0 h1;go_enter Tryz.func8,Tryz.ntmps8;go_wp2_with (first|(go_at_call 9;refine(HA.out _).mono ?_;clear HA;rintro e wz ⟨rfl,Ba⟩;have Ba:=Ba.symm;subst Ba)|(go_at_call 9;refine(HB.out _).mono ?_;rintro e wz ⟨rfl,Ba⟩;have Ba:=Ba.symm;subst Ba));go_ret;exact⟨rfl,rfl⟩
theorem qku {w:World} {base g cap:Nat} {L:List Tk} (h:w.ownsRow base 49 6 (.slice (some ⟨g,0,none⟩) L.length cap) L.length (tkC L)) {i:Nat} (hi:i<L.length):
 w.cell? ⟨g,i*6,none⟩=some (.int .i64 (tok L i).k)∧w.cell? ⟨g,i*6+1,none⟩=some (.string ⟨(tok L i).t.toArray⟩)∧w.cell? ⟨g,i*6+5,none⟩=some (.int .i64 (tok L i).p):=by
 have hc:∀r,r<6→w.cell? ⟨g,i*6+r,none⟩=(tkV (tok L i)).toList[r]? :=fun r hr=>by
  rw[World.ownsRow.cellAt h (i*6+r) (by omega),qiz L i r hi hr]
 exact⟨hc 0 (by omega),hc 1 (by omega),hc 5 (by omega)⟩
theorem qqb:Tryz.prog.fieldsOf 47=#[⟨"Addr",3,0,false, "", "",0⟩,⟨"Bits",3,1,false, "", "",8⟩]:=by kernel_rfl
theorem qt0:Tryz.prog.underlying 47=some (.struct (Tryz.prog.fieldsOf 47)):=by kernel_rfl
theorem qs2:Tryz.prog.stoodInHeld 47=false:=by kernel_rfl
theorem eq47 (a b:Int) (w:World):(Op.equalIn 10000 47 (.agg #[.int .i64 a,.int .i64 b]) (.agg #[.int .i64 a,.int .i64 b])).run Tryz.prog w=.ok true w:=by
 have h3:∀(x:Int) w,(Op.equalIn 9999 3 (.int .i64 x) (.int .i64 x)).run Tryz.prog w=.ok true w:=fun x w=>by rw[show(9999:Nat)=9998+1 from rfl,run_equalIn_int w 9998 3 .i64 .i64 x x Tryz.underlying3];simp
 have p0:∀w,(part 3 #[.int .i64 a,.int .i64 b] 0).run Tryz.prog w=.ok (.int .i64 a) w:=fun w=>by kernel_rfl
 have p1:∀w,(part 3 #[.int .i64 a,.int .i64 b] 1).run Tryz.prog w=.ok (.int .i64 b) w:=fun w=>by kernel_rfl
 rw[show(10000:Nat)=9999+1 from rfl,run_equalIn_struct w 9999 47 _ _ qt0 qs2,qqb];simp[Op.eqFields,Sem.run_bind,p0,p1,h3]
theorem qaj.rows {w:World} {base:Nat} {c:CT} {v0 v1 v2 v3 v4 v5 v6 v7:Value} {bs:List Nat} (h:qaj w base c [v0,v1,v2,v3,v4,v5,v6,v7] bs):w.ownsRow base 47 2 v3 c.pre.length (prC c.pre)∧w.ownsRow base 68 2 v4 c.sp.length (prC c.sp)∧w.ownsRow base 9 1 v5 c.ns.length (nsC c.ns)∧∃cs ks,w.ownsRow base 60 8 v6 c.kids.length cs∧qao w base c.kids cs ks:=by
 cases c with
 |mk k nm tx pre sp ns kids p=>
  unfold qaj at h;obtain⟨u3,u4,u5,u6,cs,ks,h1,h2,h3,h4,h5,h6,_⟩:=h;simp only[List.cons.injEq] at h1;obtain⟨-,-,-,rfl,rfl,rfl,rfl,-⟩:=h1;exact⟨h2,h3,h4,cs,ks,h5,h6⟩
theorem qga {w:World} {base size n:Nat} {e:TypeId} {v:Value} {xs:List Value} (h:w.ownsRow base e size v n xs):n≤9223372036854775807:=by
 rcases h.2 with⟨_,e2⟩|⟨g,cap,cur,_,_,_,hnc,hcm,_,_⟩
 ·omega
 ·simp only[maxLen] at hcm
  omega
theorem qek {k n:Nat} (h:k<n) (hn:n≤9223372036854775807):IntKind.i64.wrap ((k:Int)+1)=((k+1:Nat):Int):=by
 simp[IntKind.wrap,IntKind.bits,IntKind.signed];omega
theorem qrz (L:List By) (i:Nat) (h:i<L.length):(nsC L)[i]? =some (.string ⟨L[i].toArray⟩):=by simp[nsC,h]
def Two (c:CT):Prop:=∀(w:World) (b1 b2:Nat) (vs us:List Value) (bs ks:List Nat),qaj w b1 c vs bs→qaj w b2 c us ks→Calls Tryz.prog 33 #[.agg vs.toArray,.agg us.toArray] w fun e w'=>e=.returned (.bool true)∧Below w.heap.size w w'
theorem qqc {c:CT} (hC:∀d∈c.kids,Two d):Two c:=fun w o1 o2 vs us bs ks h1 h2=>by
 obtain⟨a3,c3,a4,c4,a5,c5,a6,c6,rfl⟩:=h1.eight;obtain⟨d3,e3,d4,e4,d5,e5,d6,e6,rfl⟩:=h2.eight;obtain⟨r3,r4,r5,cs1,k1,r6,hk1⟩:=h1.rows;obtain⟨s3,s4,s5,cs2,k2,s6,hk2⟩:=h2.rows;have M3:=qaa (qga r3);have M4:=qaa (qga r4);have M5:=qaa (qga r5);have M6:=qaa (qga r6);have G3:Hid (0<c.pre.length→∃g1 g2,a3=some ⟨g1,0,none⟩∧d3=some ⟨g2,0,none⟩):=fun h=>by
  obtain⟨_,_,x1,y1⟩:=qad r3;obtain⟨_,_,x2,y2⟩:=qad s3;obtain⟨g1,z1⟩:=y1 h;obtain⟨g2,z2⟩:=y2 h;injection x1 with x1
  injection x2 with x2
  exact⟨g1,g2,x1.trans z1,x2.trans z2⟩
 have R3:=qaa r3;have S3:=qaa s3;have G4:Hid (0<c.sp.length→∃g1 g2,a4=some ⟨g1,0,none⟩∧d4=some ⟨g2,0,none⟩):=fun h=>by
  obtain⟨_,_,x1,y1⟩:=qad r4;obtain⟨_,_,x2,y2⟩:=qad s4;obtain⟨g1,z1⟩:=y1 h;obtain⟨g2,z2⟩:=y2 h;injection x1 with x1
  injection x2 with x2
  exact⟨g1,g2,x1.trans z1,x2.trans z2⟩
 have R4:=qaa r4;have S4:=qaa s4;have G5:Hid (0<c.ns.length→∃g1 g2,a5=some ⟨g1,0,none⟩∧d5=some ⟨g2,0,none⟩):=fun h=>by
  obtain⟨_,_,x1,y1⟩:=qad r5;obtain⟨_,_,x2,y2⟩:=qad s5;obtain⟨g1,z1⟩:=y1 h;obtain⟨g2,z2⟩:=y2 h;injection x1 with x1
  injection x2 with x2
  exact⟨g1,g2,x1.trans z1,x2.trans z2⟩
 have R5:=qaa r5;have S5:=qaa s5;have G6:Hid (0<c.kids.length→∃g1 g2,a6=some ⟨g1,0,none⟩∧d6=some ⟨g2,0,none⟩):=fun h=>by
  obtain⟨_,_,x1,y1⟩:=qad r6;obtain⟨_,_,x2,y2⟩:=qad s6;obtain⟨g1,z1⟩:=y1 h;obtain⟨g2,z2⟩:=y2 h;injection x1 with x1
  injection x2 with x2
  exact⟨g1,g2,x1.trans z1,x2.trans z2⟩
 have R6:=qaa r6;have S6:=qaa s6;have DK:=qaa hk1;have Bn:=qaa hk2;have BU:=qaa hC;obtain⟨W,hW⟩:∃W,W=(w.alloc (.cells #[.int .i64 c.k,.string ⟨c.nm.toArray⟩,.string ⟨c.tx.toArray⟩,.slice a3 c.pre.length c3,.slice a4 c.sp.length c4,.slice a5 c.ns.length c5,.slice a6 c.kids.length c6,.int .i64 c.p] 60)).alloc (.cells #[.int .i64 c.k,.string ⟨c.nm.toArray⟩,.string ⟨c.tx.toArray⟩,.slice d3 c.pre.length e3,.slice d4 c.sp.length e4,.slice d5 c.ns.length e5,.slice d6 c.kids.length e6,.int .i64 c.p] 60):=⟨_,rfl⟩;obtain⟨b1,hb1⟩:∃b,b=w.heap.size:=⟨_,rfl⟩;obtain⟨b2,hb2⟩:∃b,b=w.heap.size+1:=⟨_,rfl⟩;have XW:=qaa (show Below w.heap.size w W by rw[hW];exact al (al Yj _) _);have B1:=qaa (show W.heap[b1]? =some (.cells #[.int .i64 c.k,.string ⟨c.nm.toArray⟩,.string ⟨c.tx.toArray⟩,.slice a3 c.pre.length c3,.slice a4 c.sp.length c4,.slice a5 c.ns.length c5,.slice a6 c.kids.length c6,.int .i64 c.p] 60 (0,0)) by
  rw[hW,hb1];exact(heap_alloc_old _ _ (by simp)).trans (Yh w _))
 have B2:=qaa (show W.heap[b2]? =some (.cells #[.int .i64 c.k,.string ⟨c.nm.toArray⟩,.string ⟨c.tx.toArray⟩,.slice d3 c.pre.length e3,.slice d4 c.sp.length e4,.slice d5 c.ns.length e5,.slice d6 c.kids.length e6,.int .i64 c.p] 60 (0,0)) by
  rw[hW,hb2,show w.heap.size+1=(w.alloc (.cells #[.int .i64 c.k,.string ⟨c.nm.toArray⟩,.string ⟨c.tx.toArray⟩,.slice a3 c.pre.length c3,.slice a4 c.sp.length c4,.slice a5 c.ns.length c5,.slice a6 c.kids.length c6,.int .i64 c.p] 60)).heap.size by simp];exact Yh _ _)
 clear r3 r4 r5 r6 s3 s4 s5 s6 hk1 hk2 h1 h2 hC;generalize c.k=ck at *;generalize c.nm=nm at *;generalize c.tx=tx at *;generalize c.p=cp at *;have Q1:Hid (∀V,Below W.heap.size W V→V.heap[b1]? =some (.cells #[.int .i64 ck,.string ⟨nm.toArray⟩,.string ⟨tx.toArray⟩,.slice a3 c.pre.length c3,.slice a4 c.sp.length c4,.slice a5 c.ns.length c5,.slice a6 c.kids.length c6,.int .i64 cp] 60 (0,0))∧V.heap[b2]? =some (.cells #[.int .i64 ck,.string ⟨nm.toArray⟩,.string ⟨tx.toArray⟩,.slice d3 c.pre.length e3,.slice d4 c.sp.length e4,.slice d5 c.ns.length e5,.slice d6 c.kids.length e6,.int .i64 cp] 60 (0,0))):=fun V y=>⟨(y.block b1 (Yd B1.out)).trans B1.out,(y.block b2 (Yd B2.out)).trans B2.out⟩
 obtain⟨q0,q1,q2,q3,q4,q5,q6,q7⟩:=ld8 B1.out;obtain⟨u0,u1,u2,u3,u4,u5,u6,u7⟩:=ld8 B2.out;go_enter Tryz.func33,Tryz.ntmps33;go_upto_region 1 with fail
 rw[←hb2,←hW,←hb1];clear hW hb1 hb2;have n1:(ck !=ck)=false:=by simp
 have n4:(cp !=cp)=false:=by simp
 have n5:((c.pre.length:Int)!=(c.pre.length:Int))=false:=by simp
 have n6:((c.sp.length:Int)!=(c.sp.length:Int))=false:=by simp
 have n7:((c.ns.length:Int)!=(c.ns.length:Int))=false:=by simp
 have n8:((c.kids.length:Int)!=(c.kids.length:Int))=false:=by simp
 go_upto_region 3 with fail
 clear n1 n4 n5 n6 n7 n8 B1 B2 q0 q1 q2 q3 q4 q5 q6 q7 u0 u1 u2 u3 u4 u5 u6 u7;have X0:Hid (Below W.heap.size W W):=Below.refl _ _;go_wp2;go_loopg [5] (c.pre.length+1) (fun gg x wr=>∃k:Nat,x=.int .i64 (k:Nat)∧k≤c.pre.length∧Hid (Below W.heap.size W wr)∧c.pre.length-k<gg)
 case atStart=>exact⟨0,rfl,by omega,X0,by omega⟩
 case round=>
  clear X0;obtain⟨k,rfl,hk,XR,hg⟩:=hrel;have HG:=qaa hg;clear hg;obtain⟨q0,q1,q2,q3,q4,q5,q6,q7⟩:=ld8 (Q1.out _ XR.out).1;obtain⟨u0,u1,u2,u3,u4,u5,u6,u7⟩:=ld8 (Q1.out _ XR.out).2;by_cases hlt:k<c.pre.length
  ·as_aux_lemma=>
   have hlt':(k:Int)<(c.pre.length:Int):=by omega
   obtain⟨g1,g2,rfl,rfl⟩:=G3.out (by omega);have fw:=qek hlt M3.out;have ho1:=own_below R3.out (bt XW.out XR.out Yi);have ho2:=own_below S3.out (bt XW.out XR.out Yi);obtain⟨p1,p2⟩:=qhb c.pre k hlt;have x1:wr.cell? ⟨g1,k*2,none⟩=some (.int .i64 c.pre[k].1):=by rw[World.ownsRow.cellAt ho1 (k*2) (by omega)];exact p1
   have x2:wr.cell? ⟨g1,k*2+1,none⟩=some (.int .i64 c.pre[k].2):=by rw[World.ownsRow.cellAt ho1 (k*2+1) (by omega)];exact p2
   have y1:wr.cell? ⟨g2,k*2,none⟩=some (.int .i64 c.pre[k].1):=by rw[World.ownsRow.cellAt ho2 (k*2) (by omega)];exact p1
   have y2:wr.cell? ⟨g2,k*2+1,none⟩=some (.int .i64 c.pre[k].2):=by rw[World.ownsRow.cellAt ho2 (k*2+1) (by omega)];exact p2
   obtain⟨z,hzz⟩:∃z,z=c.pre[k]:=⟨_,rfl⟩;rw[←hzz] at x1 x2 y1 y2;have HK:=qaa hlt;clear hzz p1 p2 ho1 ho2 hlt;have heq:=eq47 z.1 z.2;go_wp2;go_quiet (fail);clear x1 x2 y1 y2 heq;go_wp2;go_roundg (c.pre.length-(k+1)+1)
   case measure=>have:=HG.out;have:=HK.out;omega
   case rel=>exact⟨k+1,by first|rfl|(rw[show wrap64 ((k:Int)+1)=((k+1:Nat):Int) from fw]),by have:=HK.out;omega,qaa ⟨XR.out.os,XR.out.tape,XR.out.output,XR.out.size,XR.out.block⟩,by omega⟩
  ·as_aux_lemma=>
   have hlt':¬(k:Int)<(c.pre.length:Int):=by omega
   have X0:=XR;clear HG XR;go_wp2;go_loopg [6] (c.sp.length+1) (fun gg x wr=>∃k:Nat,x=.int .i64 (k:Nat)∧k≤c.sp.length∧Hid (Below W.heap.size W wr)∧c.sp.length-k<gg)
   case atStart=>exact⟨0,rfl,by omega,X0,by omega⟩
   case round=>
    clear X0;obtain⟨k,rfl,hk,XR,hg⟩:=hrel;have HG:=qaa hg;clear hg;obtain⟨q0,q1,q2,q3,q4,q5,q6,q7⟩:=ld8 (Q1.out _ XR.out).1;obtain⟨u0,u1,u2,u3,u4,u5,u6,u7⟩:=ld8 (Q1.out _ XR.out).2;by_cases hlt:k<c.sp.length
    ·as_aux_lemma=>
     have hlt':(k:Int)<(c.sp.length:Int):=by omega
     obtain⟨g1,g2,rfl,rfl⟩:=G4.out (by omega);have fw:=qek hlt M4.out;have ho1:=own_below R4.out (bt XW.out XR.out Yi);have ho2:=own_below S4.out (bt XW.out XR.out Yi);obtain⟨p1,p2⟩:=qhb c.sp k hlt;have x1:wr.cell? ⟨g1,k*2,none⟩=some (.int .i64 c.sp[k].1):=by rw[World.ownsRow.cellAt ho1 (k*2) (by omega)];exact p1
     have x2:wr.cell? ⟨g1,k*2+1,none⟩=some (.int .i64 c.sp[k].2):=by rw[World.ownsRow.cellAt ho1 (k*2+1) (by omega)];exact p2
     have y1:wr.cell? ⟨g2,k*2,none⟩=some (.int .i64 c.sp[k].1):=by rw[World.ownsRow.cellAt ho2 (k*2) (by omega)];exact p1
     have y2:wr.cell? ⟨g2,k*2+1,none⟩=some (.int .i64 c.sp[k].2):=by rw[World.ownsRow.cellAt ho2 (k*2+1) (by omega)];exact p2
     obtain⟨z,hzz⟩:∃z,z=c.sp[k]:=⟨_,rfl⟩;rw[←hzz] at x1 x2 y1 y2;have HK:=qaa hlt;clear hzz p1 p2 ho1 ho2 hlt;have heq:=qtt z.1 z.2;go_wp2;go_quiet (fail);clear x1 x2 y1 y2 heq;go_wp2;go_roundg (c.sp.length-(k+1)+1)
     case measure=>have:=HG.out;have:=HK.out;omega
     case rel=>exact⟨k+1,by first|rfl|(rw[show wrap64 ((k:Int)+1)=((k+1:Nat):Int) from fw]),by have:=HK.out;omega,qaa ⟨XR.out.os,XR.out.tape,XR.out.output,XR.out.size,XR.out.block⟩,by omega⟩
    ·as_aux_lemma=>
     have hlt':¬(k:Int)<(c.sp.length:Int):=by omega
     have X0:=XR;clear HG XR;go_wp2;go_loopg [7] (c.ns.length+1) (fun gg x wr=>∃k:Nat,x=.int .i64 (k:Nat)∧k≤c.ns.length∧Hid (Below W.heap.size W wr)∧c.ns.length-k<gg)
     case atStart=>exact⟨0,rfl,by omega,X0,by omega⟩
     case round=>
      clear X0;obtain⟨k,rfl,hk,XR,hg⟩:=hrel;have HG:=qaa hg;clear hg;obtain⟨q0,q1,q2,q3,q4,q5,q6,q7⟩:=ld8 (Q1.out _ XR.out).1;obtain⟨u0,u1,u2,u3,u4,u5,u6,u7⟩:=ld8 (Q1.out _ XR.out).2;by_cases hlt:k<c.ns.length
      ·as_aux_lemma=>
       have hlt':(k:Int)<(c.ns.length:Int):=by omega
       obtain⟨g1,g2,rfl,rfl⟩:=G5.out (by omega);have fw:=qek hlt M5.out;have ho1:=own_below R5.out (bt XW.out XR.out Yi);have ho2:=own_below S5.out (bt XW.out XR.out Yi);have p1:=qrz c.ns k hlt;have x1:wr.cell? ⟨g1,k,none⟩=some (.string ⟨c.ns[k].toArray⟩):=by rw[World.ownsRow.cellAt ho1 k (by omega)];exact p1
       have y1:wr.cell? ⟨g2,k,none⟩=some (.string ⟨c.ns[k].toArray⟩):=by rw[World.ownsRow.cellAt ho2 k (by omega)];exact p1
       obtain⟨z,hzz⟩:∃z,z=c.ns[k]:=⟨_,rfl⟩;rw[←hzz] at x1 y1;have HK:=qaa hlt;clear hzz p1 ho1 ho2 hlt;go_wp2;go_quiet (fail);clear x1 y1;go_wp2;go_roundg (c.ns.length-(k+1)+1)
       case measure=>have:=HG.out;have:=HK.out;omega
       case rel=>exact⟨k+1,by first|rfl|(rw[show wrap64 ((k:Int)+1)=((k+1:Nat):Int) from fw]),by have:=HK.out;omega,qaa ⟨XR.out.os,XR.out.tape,XR.out.output,XR.out.size,XR.out.block⟩,by omega⟩
      ·as_aux_lemma=>
       have hlt':¬(k:Int)<(c.ns.length:Int):=by omega
       have X0:=XR;clear HG XR;go_wp2;go_loopg [8] (c.kids.length+1) (fun gg x wr=>∃k:Nat,x=.int .i64 (k:Nat)∧k≤c.kids.length∧Hid (Below W.heap.size W wr)∧c.kids.length-k<gg)
       case atStart=>exact⟨0,rfl,by omega,X0,by omega⟩
       case round=>
        clear X0;obtain⟨k,rfl,hk,XR,hg⟩:=hrel;have HG:=qaa hg;clear hg;obtain⟨q0,q1,q2,q3,q4,q5,q6,q7⟩:=ld8 (Q1.out _ XR.out).1;obtain⟨u0,u1,u2,u3,u4,u5,u6,u7⟩:=ld8 (Q1.out _ XR.out).2;by_cases hlt:k<c.kids.length
        ·as_aux_lemma=>
         have hlt':(k:Int)<(c.kids.length:Int):=by omega
         obtain⟨g1,g2,rfl,rfl⟩:=G6.out (by omega);have fw:=qek hlt M6.out;obtain⟨d,hdd⟩:∃d,d=c.kids[k]:=⟨_,rfl⟩;have Oq:Hid (Two d):=by rw[hdd];exact BU.out _ (List.getElem_mem hlt)
         obtain⟨ws1,t1,hc1,hg1,_⟩:=DK.out.get k hlt;obtain⟨ws2,t2,hc2,hg2,_⟩:=Bn.out.get k hlt;rw[←hdd] at hc1 hc2;obtain⟨m3,n3,m4,n4,m5,n5,m6,n6,rfl⟩:=hc1.eight;obtain⟨i3,j3,i4,j4,i5,j5,i6,j6,rfl⟩:=hc2.eight;have Bu:Hid (∀V,Below W.heap.size W V→(V.cell? ⟨g1,k*8,none⟩=some (.int .i64 d.k)∧V.cell? ⟨g1,k*8+1,none⟩=some (.string ⟨d.nm.toArray⟩)∧V.cell? ⟨g1,k*8+2,none⟩=some (.string ⟨d.tx.toArray⟩)∧V.cell? ⟨g1,k*8+3,none⟩=some (.slice m3 d.pre.length n3)∧V.cell? ⟨g1,k*8+4,none⟩=some (.slice m4 d.sp.length n4)∧V.cell? ⟨g1,k*8+5,none⟩=some (.slice m5 d.ns.length n5)∧V.cell? ⟨g1,k*8+6,none⟩=some (.slice m6 d.kids.length n6)∧V.cell? ⟨g1,k*8+7,none⟩=some (.int .i64 d.p))∧V.cell? ⟨g2,k*8,none⟩=some (.int .i64 d.k)∧V.cell? ⟨g2,k*8+1,none⟩=some (.string ⟨d.nm.toArray⟩)∧V.cell? ⟨g2,k*8+2,none⟩=some (.string ⟨d.tx.toArray⟩)∧V.cell? ⟨g2,k*8+3,none⟩=some (.slice i3 d.pre.length j3)∧V.cell? ⟨g2,k*8+4,none⟩=some (.slice i4 d.sp.length j4)∧V.cell? ⟨g2,k*8+5,none⟩=some (.slice i5 d.ns.length j5)∧V.cell? ⟨g2,k*8+6,none⟩=some (.slice i6 d.kids.length j6)∧V.cell? ⟨g2,k*8+7,none⟩=some (.int .i64 d.p)):=fun V y=>by
          have f1:∀r,r<8→V.cell? ⟨g1,k*8+r,none⟩=([.int .i64 d.k,.string ⟨d.nm.toArray⟩,.string ⟨d.tx.toArray⟩,.slice m3 d.pre.length n3,.slice m4 d.sp.length n4,.slice m5 d.ns.length n5,.slice m6 d.kids.length n6,.int .i64 d.p]:List Value)[r]? :=fun r hr=>by rw[World.ownsRow.cellAt (own_below R6.out (bt XW.out y Yi)) (k*8+r) (by omega),hg1 r hr]
          have f2:∀r,r<8→V.cell? ⟨g2,k*8+r,none⟩=([.int .i64 d.k,.string ⟨d.nm.toArray⟩,.string ⟨d.tx.toArray⟩,.slice i3 d.pre.length j3,.slice i4 d.sp.length j4,.slice i5 d.ns.length j5,.slice i6 d.kids.length j6,.int .i64 d.p]:List Value)[r]? :=fun r hr=>by rw[World.ownsRow.cellAt (own_below S6.out (bt XW.out y Yi)) (k*8+r) (by omega),hg2 r hr]
          exact⟨⟨f1 0 (by omega),f1 1 (by omega),f1 2 (by omega),f1 3 (by omega),f1 4 (by omega),f1 5 (by omega),f1 6 (by omega),f1 7 (by omega)⟩,f2 0 (by omega),f2 1 (by omega),f2 2 (by omega),f2 3 (by omega),f2 4 (by omega),f2 5 (by omega),f2 6 (by omega),f2 7 (by omega)⟩
         have JK:Hid (∀V,Below W.heap.size W V→Calls Tryz.prog 33 #[.agg #[.int .i64 d.k,.string ⟨d.nm.toArray⟩,.string ⟨d.tx.toArray⟩,.slice m3 d.pre.length n3,.slice m4 d.sp.length n4,.slice m5 d.ns.length n5,.slice m6 d.kids.length n6,.int .i64 d.p],.agg #[.int .i64 d.k,.string ⟨d.nm.toArray⟩,.string ⟨d.tx.toArray⟩,.slice i3 d.pre.length j3,.slice i4 d.sp.length j4,.slice i5 d.ns.length j5,.slice i6 d.kids.length j6,.int .i64 d.p]] V fun e w'=>e=.returned (.bool true)∧Below V.heap.size V w'):=fun V y=>Oq.out V _ _ _ _ _ _ (hc1.below (bt XW.out y Yi)) (hc2.below (bt XW.out y Yi))
         have HK:=qaa hlt;clear hdd hc1 hc2 hg1 hg2 hlt Oq;go_upto_region 21 with fail
         clear q0 q1 q2 q3 q4 q5 q6 q7 u0 u1 u2 u3 u4 u5 u6 u7;have Bb:Hid (Below W.heap.size W wr.drew):=XR.out.drew;refine qam (S:=fun V=>Below W.heap.size W V) 11 (by kernel_rfl) ?_;generalize wr.drew=wd at *;refine qac.tk 0 rfl 133 Bb.out (fun w' hw'=>by go_simp;first|done|rfl) ?_
         try simp only[Act.put,Ya,Yb,Yc]
         refine qac.tk 1 rfl 134 Bb.out (fun w' hw'=>by obtain⟨-,-,-,-,-,-,q6,-⟩:=ld8 (Q1.out _ hw').1;go_simp;first|done|rfl) ?_
         try simp only[Act.put,Ya,Yb,Yc]
         refine qac.tk 2 rfl 135 Bb.out (fun w' hw'=>by go_simp;first|done|rfl) ?_
         try simp only[Act.put,Ya,Yb,Yc]
         refine qac.tk 3 rfl 136 Bb.out (fun w' hw'=>by go_simp;first|done|rfl) ?_
         try simp only[Act.put,Ya,Yb,Yc]
         refine qac.tk 4 rfl 137 Bb.out (fun w' hw'=>by obtain⟨⟨x0,x1,x2,x3,x4,x5,x6,x7⟩,-⟩:=Bu.out w' hw';go_simp;first|done|rfl) ?_
         try simp only[Act.put,Ya,Yb,Yc]
         refine qac.tk 5 rfl 138 Bb.out (fun w' hw'=>by go_simp;first|done|rfl) ?_
         try simp only[Act.put,Ya,Yb,Yc]
         refine qac.tk 6 rfl 139 Bb.out (fun w' hw'=>by obtain⟨-,-,-,-,-,-,u6,-⟩:=ld8 (Q1.out _ hw').2;go_simp;first|done|rfl) ?_
         try simp only[Act.put,Ya,Yb,Yc]
         refine qac.tk 7 rfl 140 Bb.out (fun w' hw'=>by go_simp;first|done|rfl) ?_
         try simp only[Act.put,Ya,Yb,Yc]
         refine qac.tk 8 rfl 141 Bb.out (fun w' hw'=>by go_simp;first|done|rfl) ?_
         try simp only[Act.put,Ya,Yb,Yc]
         refine qac.tk 9 rfl 142 Bb.out (fun w' hw'=>by obtain⟨-,x0,x1,x2,x3,x4,x5,x6,x7⟩:=Bu.out w' hw';go_simp;first|done|rfl) ?_
         try simp only[Act.put,Ya,Yb,Yc]
         refine qac.stq 10 rfl fun K hK=>?_
         go_simp;refine(JK.out wd Bb.out).mono ?_;rintro e wx ⟨rfl,x⟩;have XX:=qaa (bt Bb.out x Yi);refine hK _ _ XX.out ?_;clear hK K x
         try simp only[Act.put,Ya,Yb,Yc]
         refine qac.lst rfl fun K hK=>?_
         go_simp;refine hK _ _ ?_;clear hK K;go_wp2;go_roundg (c.kids.length-(k+1)+1)
         case measure=>have:=HG.out;have:=HK.out;omega
         case rel=>exact⟨k+1,by first|rfl|(rw[show wrap64 ((k:Int)+1)=((k+1:Nat):Int) from fw]),by have:=HK.out;omega,XX,by omega⟩
        ·as_aux_lemma=>
         have hlt':¬(k:Int)<(c.kids.length:Int):=by omega
         have XF:=qaa (bt XW.out XR.out Yi);go_wp2;go_ret;exact⟨rfl,XF.out⟩
theorem qs3 {c d:CT} (h:d∈c.kids):SizeOf.sizeOf d<SizeOf.sizeOf c:=by
 cases c with
 |mk k nm tx pre sp ns kids p=>
  have h1:SizeOf.sizeOf d<SizeOf.sizeOf kids:=List.sizeOf_lt_of_mem h;have h2:SizeOf.sizeOf (CT.mk k nm tx pre sp ns kids p)=1+SizeOf.sizeOf k+SizeOf.sizeOf nm+SizeOf.sizeOf tx+SizeOf.sizeOf pre+SizeOf.sizeOf sp+SizeOf.sizeOf ns+SizeOf.sizeOf kids+SizeOf.sizeOf p:=by simp
  omega
theorem qoc:∀n (c:CT),SizeOf.sizeOf c<n→Two c
 |0,_,h=>absurd h (Nat.not_lt_zero _)
 |n+1,c,h=>qqc fun d hd=>qoc n d (by have:=qs3 hd;omega)
theorem qr0 (c:CT):Two c:=qoc _ c (Nat.lt_succ_self _)
theorem qod {w:World} {o1 o2:Nat} {L:List IT} {v1 v2:Value} {cs1 cs2:List Value} {bs1 bs2:List Nat} (h1:qcy w o1 L v1 cs1 bs1) (h2:qcy w o2 L v2 cs2 bs2):Calls Tryz.prog 13 #[.agg #[v1],.agg #[v2]] w fun e w'=>e=.returned (.bool true)∧Below w.heap.size w w':=by
 obtain⟨a1,p1,e1,y1⟩:=qad h1.row;obtain⟨a2,p2,e2,y2⟩:=qad h2.row;subst e1 e2;have MX:=qaa (qga h1.row);have R1:=qaa h1.row;have R2:=qaa h2.row;have I1:=qaa h1.its;have I2:=qaa h2.its;have Y1:=qaa y1;have Y2:=qaa y2;obtain⟨W,hW⟩:∃W,W=(w.alloc (.cells #[.slice a1 L.length p1] 36)).alloc (.cells #[.slice a2 L.length p2] 36):=⟨_,rfl⟩;obtain⟨b1,hb1⟩:∃b,b=w.heap.size:=⟨_,rfl⟩;obtain⟨b2,hb2⟩:∃b,b=w.heap.size+1:=⟨_,rfl⟩;have XW:=qaa (show Below w.heap.size w W by rw[hW];exact al (al Yj _) _);have B1:=qaa (show W.heap[b1]? =some (.cells #[.slice a1 L.length p1] 36 (0,0)) by
  rw[hW,hb1];exact(heap_alloc_old _ _ (by simp)).trans (Yh w _))
 have B2:=qaa (show W.heap[b2]? =some (.cells #[.slice a2 L.length p2] 36 (0,0)) by
  rw[hW,hb2,show w.heap.size+1=(w.alloc (.cells #[.slice a1 L.length p1] 36)).heap.size by simp];exact Yh _ _)
 clear h1 h2 y1 y2;have Q1:Hid (∀V,Below W.heap.size W V→V.cell? ⟨b1,0,none⟩=some (.slice a1 L.length p1)∧V.cell? ⟨b2,0,none⟩=some (.slice a2 L.length p2)):=fun V y=>⟨by rw[Ye _ _ _ _ _ _ ((y.block b1 (Yd B1.out)).trans B1.out)];rfl,by rw[Ye _ _ _ _ _ _ ((y.block b2 (Yd B2.out)).trans B2.out)];rfl⟩
 obtain⟨q0,u0⟩:=Q1.out W Yj;go_enter Tryz.func13,Tryz.ntmps13;go_upto_region 1 with fail
 rw[←hb2,←hW,←hb1];clear hW hb1 hb2 B1 B2;have n1:((L.length:Int)!=(L.length:Int))=false:=by simp
 go_upto_region 3 with fail
 clear n1 q0 u0;have X0:Hid (Below W.heap.size W W):=Below.refl _ _;go_wp2;go_loopg [5] (L.length+1) (fun gg x wr=>∃k:Nat,x=.int .i64 (k:Nat)∧k≤L.length∧Hid (Below W.heap.size W wr)∧L.length-k<gg)
 case atStart=>exact⟨0,rfl,by omega,X0,by omega⟩
 case round=>
  clear X0;obtain⟨k,rfl,hk,XR,hg⟩:=hrel;have HG:=qaa hg;clear hg;obtain⟨q0,u0⟩:=Q1.out _ XR.out;by_cases hlt:k<L.length
  ·as_aux_lemma=>
   have hlt':(k:Int)<(L.length:Int):=by omega
   obtain⟨g1,rfl⟩:∃g,a1=some ⟨g,0,none⟩:=Y1.out (by omega);obtain⟨g2,rfl⟩:∃g,a2=some ⟨g,0,none⟩:=Y2.out (by omega);have fw:=qek hlt MX.out;obtain⟨it,hdd⟩:∃d,d=L[k]:=⟨_,rfl⟩;obtain⟨ws1,t1,hc1,hg1⟩:=I1.out.get k hlt;obtain⟨ws2,t2,hc2,hg2⟩:=I2.out.get k hlt;rw[←hdd] at hc1 hc2 hg1 hg2;obtain⟨m3,n3,m4,n4,m5,n5,m6,n6,rfl⟩:=hc1.eight;obtain⟨i3,j3,i4,j4,i5,j5,i6,j6,rfl⟩:=hc2.eight;have Bu:Hid (∀V,Below W.heap.size W V→(V.cell? ⟨g1,k*11,none⟩=some (.int .i64 it.k)∧V.cell? ⟨g1,k*11+1,none⟩=some (.string ⟨it.nm.toArray⟩)∧V.cell? ⟨g1,k*11+2,none⟩=some (.int .i64 it.c.k)∧V.cell? ⟨g1,k*11+3,none⟩=some (.string ⟨it.c.nm.toArray⟩)∧V.cell? ⟨g1,k*11+4,none⟩=some (.string ⟨it.c.tx.toArray⟩)∧V.cell? ⟨g1,k*11+5,none⟩=some (.slice m3 it.c.pre.length n3)∧V.cell? ⟨g1,k*11+6,none⟩=some (.slice m4 it.c.sp.length n4)∧V.cell? ⟨g1,k*11+7,none⟩=some (.slice m5 it.c.ns.length n5)∧V.cell? ⟨g1,k*11+8,none⟩=some (.slice m6 it.c.kids.length n6)∧V.cell? ⟨g1,k*11+9,none⟩=some (.int .i64 it.c.p)∧V.cell? ⟨g1,k*11+10,none⟩=some (.int .i64 it.p))∧V.cell? ⟨g2,k*11,none⟩=some (.int .i64 it.k)∧V.cell? ⟨g2,k*11+1,none⟩=some (.string ⟨it.nm.toArray⟩)∧V.cell? ⟨g2,k*11+2,none⟩=some (.int .i64 it.c.k)∧V.cell? ⟨g2,k*11+3,none⟩=some (.string ⟨it.c.nm.toArray⟩)∧V.cell? ⟨g2,k*11+4,none⟩=some (.string ⟨it.c.tx.toArray⟩)∧V.cell? ⟨g2,k*11+5,none⟩=some (.slice i3 it.c.pre.length j3)∧V.cell? ⟨g2,k*11+6,none⟩=some (.slice i4 it.c.sp.length j4)∧V.cell? ⟨g2,k*11+7,none⟩=some (.slice i5 it.c.ns.length j5)∧V.cell? ⟨g2,k*11+8,none⟩=some (.slice i6 it.c.kids.length j6)∧V.cell? ⟨g2,k*11+9,none⟩=some (.int .i64 it.c.p)∧V.cell? ⟨g2,k*11+10,none⟩=some (.int .i64 it.p)):=fun V y=>by
    have f1:∀r,r<11→V.cell? ⟨g1,k*11+r,none⟩=([.int .i64 it.k,.string ⟨it.nm.toArray⟩,.int .i64 it.c.k,.string ⟨it.c.nm.toArray⟩,.string ⟨it.c.tx.toArray⟩,.slice m3 it.c.pre.length n3,.slice m4 it.c.sp.length n4,.slice m5 it.c.ns.length n5,.slice m6 it.c.kids.length n6,.int .i64 it.c.p,.int .i64 it.p]:List Value)[r]? :=fun r hr=>by rw[World.ownsRow.cellAt (own_below R1.out (bt XW.out y Yi)) (k*11+r) (by omega),hg1 r hr];rfl
    have f2:∀r,r<11→V.cell? ⟨g2,k*11+r,none⟩=([.int .i64 it.k,.string ⟨it.nm.toArray⟩,.int .i64 it.c.k,.string ⟨it.c.nm.toArray⟩,.string ⟨it.c.tx.toArray⟩,.slice i3 it.c.pre.length j3,.slice i4 it.c.sp.length j4,.slice i5 it.c.ns.length j5,.slice i6 it.c.kids.length j6,.int .i64 it.c.p,.int .i64 it.p]:List Value)[r]? :=fun r hr=>by rw[World.ownsRow.cellAt (own_below R2.out (bt XW.out y Yi)) (k*11+r) (by omega),hg2 r hr];rfl
    exact⟨⟨f1 0 (by omega),f1 1 (by omega),f1 2 (by omega),f1 3 (by omega),f1 4 (by omega),f1 5 (by omega),f1 6 (by omega),f1 7 (by omega),f1 8 (by omega),f1 9 (by omega),f1 10 (by omega)⟩,f2 0 (by omega),f2 1 (by omega),f2 2 (by omega),f2 3 (by omega),f2 4 (by omega),f2 5 (by omega),f2 6 (by omega),f2 7 (by omega),f2 8 (by omega),f2 9 (by omega),f2 10 (by omega)⟩
   have JK:Hid (∀V,Below W.heap.size W V→Calls Tryz.prog 33 #[.agg #[.int .i64 it.c.k,.string ⟨it.c.nm.toArray⟩,.string ⟨it.c.tx.toArray⟩,.slice m3 it.c.pre.length n3,.slice m4 it.c.sp.length n4,.slice m5 it.c.ns.length n5,.slice m6 it.c.kids.length n6,.int .i64 it.c.p],.agg #[.int .i64 it.c.k,.string ⟨it.c.nm.toArray⟩,.string ⟨it.c.tx.toArray⟩,.slice i3 it.c.pre.length j3,.slice i4 it.c.sp.length j4,.slice i5 it.c.ns.length j5,.slice i6 it.c.kids.length j6,.int .i64 it.c.p]] V fun e w'=>e=.returned (.bool true)∧Below V.heap.size V w'):=fun V y=>qr0 it.c V _ _ _ _ _ _ (hc1.below (bt XW.out y Yi)) (hc2.below (bt XW.out y Yi))
   have HK:=qaa hlt;clear hdd hc1 hc2 hg1 hg2 hlt;obtain⟨⟨x0,x1,x2,x3,x4,x5,x6,x7,x8,x9,x10⟩,-⟩:=Bu.out wr XR.out;have XK:Hid (Below wr.heap.size wr (wr.alloc (.cells #[.int .i64 it.k,.string ⟨it.nm.toArray⟩,.int .i64 it.c.k,.string ⟨it.c.nm.toArray⟩,.string ⟨it.c.tx.toArray⟩,.slice m3 it.c.pre.length n3,.slice m4 it.c.sp.length n4,.slice m5 it.c.ns.length n5,.slice m6 it.c.kids.length n6,.int .i64 it.c.p,.int .i64 it.p] 62))):=al Yj _;have HB:=qaa (Yh wr (.cells #[.int .i64 it.k,.string ⟨it.nm.toArray⟩,.int .i64 it.c.k,.string ⟨it.c.nm.toArray⟩,.string ⟨it.c.tx.toArray⟩,.slice m3 it.c.pre.length n3,.slice m4 it.c.sp.length n4,.slice m5 it.c.ns.length n5,.slice m6 it.c.kids.length n6,.int .i64 it.c.p,.int .i64 it.p] 62));go_upto_region 7 with fail
   clear x0 x1 x2 x3 x4 x5 x6 x7 x8 x9 x10 q0 u0;have X1:=qaa (bt XR.out XK.out Yi);obtain⟨P1,hP1⟩:∃P,P=wr.heap.size:=⟨_,rfl⟩;rw[←hP1] at HB ⊢;clear hP1 XK XR;generalize wr.alloc (.cells #[.int .i64 it.k,.string ⟨it.nm.toArray⟩,.int .i64 it.c.k,.string ⟨it.c.nm.toArray⟩,.string ⟨it.c.tx.toArray⟩,.slice m3 it.c.pre.length n3,.slice m4 it.c.sp.length n4,.slice m5 it.c.ns.length n5,.slice m6 it.c.kids.length n6,.int .i64 it.c.p,.int .i64 it.p] 62)=wk at *;obtain⟨q0,u0⟩:=Q1.out _ X1.out;obtain⟨-,x0,x1,x2,x3,x4,x5,x6,x7,x8,x9,x10⟩:=Bu.out wk X1.out;have XK:Hid (Below wk.heap.size wk (wk.alloc (.cells #[.int .i64 it.k,.string ⟨it.nm.toArray⟩,.int .i64 it.c.k,.string ⟨it.c.nm.toArray⟩,.string ⟨it.c.tx.toArray⟩,.slice i3 it.c.pre.length j3,.slice i4 it.c.sp.length j4,.slice i5 it.c.ns.length j5,.slice i6 it.c.kids.length j6,.int .i64 it.c.p,.int .i64 it.p] 62))):=al Yj _;have HD:=qaa (Yh wk (.cells #[.int .i64 it.k,.string ⟨it.nm.toArray⟩,.int .i64 it.c.k,.string ⟨it.c.nm.toArray⟩,.string ⟨it.c.tx.toArray⟩,.slice i3 it.c.pre.length j3,.slice i4 it.c.sp.length j4,.slice i5 it.c.ns.length j5,.slice i6 it.c.kids.length j6,.int .i64 it.c.p,.int .i64 it.p] 62));have HB2:=qaa ((XK.out.block P1 (Yd HB.out)).trans HB.out);go_upto_region 8 with fail
   clear x0 x1 x2 x3 x4 x5 x6 x7 x8 x9 x10 q0 u0 Bu;have X2:=qaa (bt X1.out XK.out Yi);obtain⟨P2,hP2⟩:∃P,P=wk.heap.size:=⟨_,rfl⟩;rw[←hP2] at HD ⊢;clear hP2 XK X1 HB;generalize wk.alloc (.cells #[.int .i64 it.k,.string ⟨it.nm.toArray⟩,.int .i64 it.c.k,.string ⟨it.c.nm.toArray⟩,.string ⟨it.c.tx.toArray⟩,.slice i3 it.c.pre.length j3,.slice i4 it.c.sp.length j4,.slice i5 it.c.ns.length j5,.slice i6 it.c.kids.length j6,.int .i64 it.c.p,.int .i64 it.p] 62)=wl at *;obtain⟨x0,x1,x2,x3,x4,x5,x6,x7,x8,x9,x10⟩:=qic HB2.out;obtain⟨y0,y1,y2,y3,y4,y5,y6,y7,y8,y9,y10⟩:=qic HD.out;go_upto_region 9 with(go_at_call 33;refine(JK.out _ X2.out).mono ?_;rintro e wm ⟨rfl,xm⟩;have X3:=qaa (bt X2.out xm Yi);have HB3:=qaa ((xm.block P1 (Yd HB2.out)).trans HB2.out);have HD3:=qaa ((xm.block P2 (Yd HD.out)).trans HD.out);clear xm)
   clear x0 x1 x2 x3 x4 x5 x6 x7 x8 x9 x10 y0 y1 y2 y3 y4 y5 y6 y7 y8 y9 y10 JK HB2 HD X2;obtain⟨x0,x1,x2,x3,x4,x5,x6,x7,x8,x9,x10⟩:=qic HB3.out;obtain⟨y0,y1,y2,y3,y4,y5,y6,y7,y8,y9,y10⟩:=qic HD3.out;have n1:(it.k !=it.k)=false:=by simp
   have n2:(it.p !=it.p)=false:=by simp
   go_wp2;go_roundg (L.length-(k+1)+1)
   case measure=>have:=HG.out;have:=HK.out;omega
   case rel=>exact⟨k+1,by first|rfl|(rw[show wrap64 ((k:Int)+1)=((k+1:Nat):Int) from fw]),by have:=HK.out;omega,X3,by omega⟩
  ·as_aux_lemma=>
   have hlt':¬(k:Int)<(L.length:Int):=by omega
   have XF:=qaa (bt XW.out XR.out Yi);go_wp2;go_ret;exact⟨rfl,XF.out⟩
end Go.Proofs.YtlmhofjiobmodaaGreatDoor

