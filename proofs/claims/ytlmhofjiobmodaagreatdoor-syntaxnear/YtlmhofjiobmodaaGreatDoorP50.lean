/-
  The document's one by its contract: the token at a place. Condition: a source of at most 8000 bytes.
-/
import Derived.Test.YtlmhofjiobmodaaGreatDoorP48
import Derived.Test.YtlmhofjiobmodaaGreatDoorP36
import Derived.Test.YtlmhofjiobmodaaGreatDoorP49
set_option maxRecDepth 100000
set_option maxHeartbeats 16000000
namespace Go.Proofs.YtlmhofjiobmodaaGreatDoor
open Go.RowKit Go.Lib
theorem qcw {w:World} {b:Nat} {a0 a1 a2 a3 a4 a5:Value} {T:TypeId} (h:w.heap[b]? =some (.cells #[a0,a1,a2,a3,a4,a5] T (0,0))):
 w.cell? ⟨b,0,none⟩=some a0∧w.cell? ⟨b,1,none⟩=some a1∧w.cell? ⟨b,2,none⟩=some a2∧w.cell? ⟨b,3,none⟩=some a3∧w.cell? ⟨b,4,none⟩=some a4∧w.cell? ⟨b,5,none⟩=some a5∧w.frozen? ⟨b,0,none⟩=false∧w.frozen? ⟨b,1,none⟩=false∧w.frozen? ⟨b,2,none⟩=false∧w.frozen? ⟨b,3,none⟩=false∧w.frozen? ⟨b,4,none⟩=false∧w.frozen? ⟨b,5,none⟩=false:=by
 obtain⟨c0,c1,c2,c3,c4,c5⟩:=qdr h;exact⟨c0,c1,c2,c3,c4,c5,Yf _ _ 0 _ _ h,Yf _ _ 1 _ _ h,Yf _ _ 2 _ _ h,Yf _ _ 3 _ _ h,Yf _ _ 4 _ _ h,Yf _ _ 5 _ _ h⟩
theorem qcs {w0 w:World} {b:Nat} {a0 a1 a2 a3 a4 a5:Value} {T:TypeId} (h:w.heap[b]? =some (.cells #[a0,a1,a2,a3,a4,a5] T (0,0))) (x:Below w0.heap.size w0 w) (hb:b=w0.heap.size) (u0 u1 u2 u3 u4 u5:Value):
 (((((((w.setCell ⟨b,0,none⟩ u0).setCell ⟨b,1,none⟩ u1).setCell ⟨b,2,none⟩ u2).setCell ⟨b,3,none⟩ u3).setCell ⟨b,4,none⟩ u4).setCell ⟨b,5,none⟩ u5).cell? ⟨b,0,none⟩=some u0∧((((((w.setCell ⟨b,0,none⟩ u0).setCell ⟨b,1,none⟩ u1).setCell ⟨b,2,none⟩ u2).setCell ⟨b,3,none⟩ u3).setCell ⟨b,4,none⟩ u4).setCell ⟨b,5,none⟩ u5).cell? ⟨b,1,none⟩=some u1∧((((((w.setCell ⟨b,0,none⟩ u0).setCell ⟨b,1,none⟩ u1).setCell ⟨b,2,none⟩ u2).setCell ⟨b,3,none⟩ u3).setCell ⟨b,4,none⟩ u4).setCell ⟨b,5,none⟩ u5).cell? ⟨b,2,none⟩=some u2∧((((((w.setCell ⟨b,0,none⟩ u0).setCell ⟨b,1,none⟩ u1).setCell ⟨b,2,none⟩ u2).setCell ⟨b,3,none⟩ u3).setCell ⟨b,4,none⟩ u4).setCell ⟨b,5,none⟩ u5).cell? ⟨b,3,none⟩=some u3∧((((((w.setCell ⟨b,0,none⟩ u0).setCell ⟨b,1,none⟩ u1).setCell ⟨b,2,none⟩ u2).setCell ⟨b,3,none⟩ u3).setCell ⟨b,4,none⟩ u4).setCell ⟨b,5,none⟩ u5).cell? ⟨b,4,none⟩=some u4∧((((((w.setCell ⟨b,0,none⟩ u0).setCell ⟨b,1,none⟩ u1).setCell ⟨b,2,none⟩ u2).setCell ⟨b,3,none⟩ u3).setCell ⟨b,4,none⟩ u4).setCell ⟨b,5,none⟩ u5).cell? ⟨b,5,none⟩=some u5)∧Below w0.heap.size w0 ((((((w.setCell ⟨b,0,none⟩ u0).setCell ⟨b,1,none⟩ u1).setCell ⟨b,2,none⟩ u2).setCell ⟨b,3,none⟩ u3).setCell ⟨b,4,none⟩ u4).setCell ⟨b,5,none⟩ u5):=by
 subst hb;exact⟨qdr (qjp h u0 u1 u2 u3 u4 u5),(((((x.setCell (p:=⟨w0.heap.size,0,none⟩) Yi u0).setCell (p:=⟨w0.heap.size,1,none⟩) Yi u1).setCell (p:=⟨w0.heap.size,2,none⟩) Yi u2).setCell (p:=⟨w0.heap.size,3,none⟩) Yi u3).setCell (p:=⟨w0.heap.size,4,none⟩) Yi u4).setCell (p:=⟨w0.heap.size,5,none⟩) Yi u5⟩
def OnD (s:By) (q:Nat) (e:Ending):Prop:=∃(y:Tk) (n c:Int),e=.returned (.tuple #[.agg (tkV y),.int .i64 n,.int .i64 c])∧match qct (s.drop q) with
 |.ok (z,k)=>y=z∧n=((q+k:Nat):Int)∧c=0
 |.error d=>c=d
theorem qg0 {s:By} {q k:Nat} {z:Tk} (h:qct (s.drop q)=.ok (z,k)) {e:Ending} {n:Int} (hn:n=((q+k:Nat):Int)) (he:e=.returned (.tuple #[.agg (tkV z),.int .i64 n,.int .i64 0])):OnD s q e:=by
 refine⟨z,n,0,he,?_⟩;rw[h];exact⟨rfl,hn,rfl⟩
theorem qgg {s:By} {q:Nat} {d:Int} (h:qct (s.drop q)=.error d) {e:Ending} (he:e=.returned (.tuple #[.agg (tkV ⟨0,[],0,0,0,0⟩),.int .i64 0,.int .i64 d])):OnD s q e:=by
 refine⟨⟨0,[],0,0,0,0⟩,0,d,he,?_⟩;rw[h]
theorem qqo {k:Int} {s:By} {i j:Nat} (h:qqk k s i j):j=i+((s.drop i).takeWhile fun b=>goB k (bI b)).length:=by
 obtain⟨h1,h2,h3,h4⟩:=h;obtain⟨t1,t2⟩:=qjl (fun b=>goB k (bI b)) (s.drop i);have hle:=qp5 (fun b=>goB k (bI b)) (s.drop i);have hc:=qn2 (fun b=>goB k (bI b)) s i;generalize ((s.drop i).takeWhile fun b=>goB k (bI b))=run at *;rw[List.length_drop] at hle;rcases Nat.lt_trichotomy j (i+run.length) with h|h|h
 ·exfalso
  have:=h4 (by omega);have hm:s[j]'(by omega)∈qbq s i (i+run.length):=by
   unfold qbq;refine List.mem_iff_getElem.2 ⟨j-i,by simp;omega,?_⟩;rw[List.getElem_drop,List.getElem_take]
   congr 1
   omega
  rw[hc] at hm;rw[t1 _ hm] at this;cases this
 ·exact h
 ·exfalso
  have:=t2 (by rw[List.length_drop];omega);rw[qkm (by omega)] at this;exact this (h3 (i+run.length) (by omega) (by omega) h)
theorem qqp (k:Int) (hk:k=1∨k=2∨k=3) (s:By) (i E:Nat) (hi:i≤s.length) (hs:s.length≤140737488351232) (hE:E=i+((s.drop i).takeWhile fun b=>goB (k+1) (bI b)).length) (w:World):
 Calls Tryz.prog 81 #[.int .i64 k,.string ⟨s.toArray⟩,.int .i64 (i:Nat)] w fun e w'=>e=.returned (.int .i64 (E:Int))∧w'=w:=by
 refine(qr2 k hk s i hi hs w).mono ?_;rintro e w' ⟨⟨j,rfl,hj⟩,rfl⟩;rw[qqo hj,hE];exact⟨rfl,rfl⟩
theorem qr6 {run:By} (hs:run≠[]):qep run=dgT run:=by
 unfold qep dgT;by_cases h:46∈run∨47∈run
 ·rw[qov hs h,if_pos h]
  simp only[if_pos h]
 ·simp only[if_neg h]
  cases qdy run with
  |none=>rfl
  |some u=>rfl
theorem qs6:∀c:Fin 256,sgB (bI (UInt8.ofNat c.val))=qbm.contains (UInt8.ofNat c.val):=by decide+kernel
theorem qt5 (y:UInt8):sgB (bI y)=qbm.contains y:=by
 have:=qs6 ⟨y.toNat,y.toNat_lt⟩
 rwa [UInt8.ofNat_toNat] at this
theorem qqq (s:By) (hs:s.length≤8000) (q:Nat) (hq:q<s.length) (w:World):
 Calls Tryz.prog 54 #[.string ⟨s.toArray⟩,.int .i64 (q:Int)] w fun e w'=>OnD s q e∧Below w.heap.size w w':=by
 have hsz:=qa5 s;have hq':(q:Int)<(s.length:Int):=by omega
 obtain⟨y,hy⟩:∃y,s[q]=y:=⟨_,rfl⟩;have hgt:∀hk,(⟨s.toArray⟩:ByteArray)[q]'hk=y:=fun _=>hy
 have HD:Hid (s.drop q=y::s.drop (q+1)):=by unfold Hid;rw[List.drop_eq_getElem_cons hq,hy]
 clear hy;have H1:=qaa (fun W=>qgu (y.toNat:Int) W);have H2:=qaa (fun W=>qgv (y.toNat:Int) W);have H3:=qaa (fun W=>qe1 (y.toNat:Int) W);have eb:bI y=(y.toNat:Int):=rfl;obtain⟨P,hP⟩:∃P,P=w.heap.size:=⟨_,rfl⟩;have Dj:=qaa hP;obtain⟨W,hW⟩:∃W,W=w.alloc (.cells #[.int .i64 0,.string ⟨#[]⟩,.int .i64 0,.int .i64 0,.int .i64 0,.int .i64 0] 49):=⟨_,rfl⟩;have HB:=qaa (show Below w.heap.size w W by rw[hW];exact al Yj _);have HK:=qaa (show W.heap[P]? =some (.cells #[.int .i64 0,.string ⟨#[]⟩,.int .i64 0,.int .i64 0,.int .i64 0,.int .i64 0] 49 (0,0)) by rw[hW,hP];exact Yh w _);have J7:Hid (∀V,Below W.heap.size W V→V.heap[P]? =some (.cells #[.int .i64 0,.string ⟨#[]⟩,.int .i64 0,.int .i64 0,.int .i64 0,.int .i64 0] 49 (0,0))):=fun V hV=>(hV.block P (Yd HK.out)).trans HK.out
 have J8:Hid (∀k:Int,k=1∨k=2∨k=3→goB (k+1) (bI y)=true→∃(E:Nat) (run:By),run≠[]∧((s.drop q).takeWhile fun b=>goB (k+1) (bI b))=run∧E=q+run.length∧E≤s.length∧(⟨s.toArray⟩:ByteArray).extract q E=⟨run.toArray⟩∧∀V,Calls Tryz.prog 81 #[.int .i64 k,.string ⟨s.toArray⟩,.int .i64 (q:Int)] V fun e w'=>e=.returned (.int .i64 (E:Int))∧w'=V):=fun k hk hg=>by
  have hle:=qp5 (fun b=>goB (k+1) (bI b)) (s.drop q);have hc:=qn2 (fun b=>goB (k+1) (bI b)) s q;have hc2:=qfq s q (q+((s.drop q).takeWhile fun b=>goB (k+1) (bI b)).length);rw[hc] at hc2;rw[List.length_drop] at hle;refine⟨_,_,?_,rfl,rfl,by omega,hc2,fun V=>qqp k hk s q _ (by omega) (by omega) rfl V⟩;rw[HD.out,List.takeWhile_cons,if_pos hg];simp
 clear hq;go_enter Tryz.func54,Tryz.ntmps54;go_upto_region 1 with fail
 rw[←hW,←hP];clear hW hP;by_cases hsm:smB (y.toNat:Int)=true
 ·obtain⟨E,run,hne,hrun,hE,hEl,hcut,hr⟩:=J8.out 1 (.inl rfl) (qo1 hsm)
  have HR:=qaa hr;have hrun:((s.drop q).takeWhile fun b=>goB 2 (bI b))=run:=hrun;clear hr J8;have Dk:Hid (qct (s.drop q)=(qet 2 run).map fun z=>(z,run.length)):=by
   unfold Hid;rw[←hrun,HD.out];rw[qct,if_pos (show smB (bI y)=true from hsm)]
  clear hrun;have hE2:(q:Int)≤(E:Int):=by omega
  have hE3:(E:Int)≤(s.length:Int):=by omega
  have hE4:IntKind.i64.wrap ((E:Int)-(q:Int))=(run.length:Int):=by rw[show(E:Int)-(q:Int)=(run.length:Int) by omega];simp[IntKind.wrap,IntKind.bits,IntKind.signed];omega
  have EA:Hid ((E:Int)=((q+run.length:Nat):Int)):=by unfold Hid;rw[hE]
  have Nf:=qaa hEl;have Ee:=qaa hcut;clear hE hEl hcut;rw[hsm] at H1;have J2:Hid (∀V,Calls Tryz.prog 82 #[.string ((⟨s.toArray⟩:ByteArray).extract q E)] V fun e w'=>e=.returned (.bool (wdB run))∧Below V.heap.size V w'):=fun V=>by rw[Ee.out];exact qjy run V
  have PG:Hid (wdB run=true→run.length≤32):=fun h=>(qn9 h).2.2
  clear hsm hne;cases hwd:wdB run with
  |true=>
   rw[hwd] at J2;have PH:=PG.out hwd;have Dw:Hid (qct (s.drop q)=.ok (⟨1,run,0,0,0,0⟩,run.length)):=by
    unfold Hid;rw[Dk.out];unfold qet;rw[if_pos rfl,if_neg (by omega),hwd];rfl
   clear hwd Dk;go_wp2_with (first|(go_at_call 78;refine(H1.out _).mono ?_;rintro e wz ⟨rfl,Ba⟩;have Ba:=Ba.symm;subst Ba)|(go_at_call 79;refine(H2.out _).mono ?_;rintro e wz ⟨rfl,Ba⟩;have Ba:=Ba.symm;subst Ba)|(go_at_call 80;refine(H3.out _).mono ?_;rintro e wz ⟨rfl,Ba⟩;have Ba:=Ba.symm;subst Ba)|(go_at_call 81;refine(HR.out _).mono ?_;rintro e wz ⟨rfl,Ba⟩;have Ba:=Ba.symm;subst Ba)|(go_at_call 82;refine(J2.out _).mono ?_;rintro e w2 ⟨rfl,x2⟩;have Bn:=qaa (J7.out _ x2);have X2:=qaa (bt HB.out x2 Yi);clear x2;obtain⟨c0,c1,c2,c3,c4,c5,f0,f1,f2,f3,f4,f5⟩:=qcw Bn.out));obtain⟨⟨r0,r1,r2,r3,r4,r5⟩,B9⟩:=qcs Bn.out X2.out Dj.out (.int .i64 1) (.string ((⟨s.toArray⟩:ByteArray).extract q E)) (.int .i64 0) (.int .i64 0) (.int .i64 0) (.int .i64 0);clear c0 c1 c2 c3 c4 c5 f0 f1 f2 f3 f4 f5;generalize ((((((w2.setCell ⟨P,0,none⟩ (.int .i64 1)).setCell ⟨P,1,none⟩ (.string ((⟨s.toArray⟩:ByteArray).extract q E))).setCell ⟨P,2,none⟩ (.int .i64 0)).setCell ⟨P,3,none⟩ (.int .i64 0)).setCell ⟨P,4,none⟩ (.int .i64 0)).setCell ⟨P,5,none⟩ (.int .i64 0))=W9 at *;refine Yg (by simp[results,Tryz.results54,go_sem,r0,r1,r2,r3,r4,r5];try rfl) rfl ?_;refine⟨qg0 Dw.out EA.out (by rw[Ee.out];rfl),B9⟩
  |false=>
   rw[hwd] at J2;by_cases hl:32<run.length
   ·have hl':(32:Int)<(run.length:Int):=by omega
    have Dw:Hid (qct (s.drop q)=.error 82):=by
     unfold Hid;rw[Dk.out];unfold qet;rw[if_pos rfl,if_pos hl];rfl
    clear hwd Dk;go_wp2_with (first|(go_at_call 78;refine(H1.out _).mono ?_;rintro e wz ⟨rfl,Ba⟩;have Ba:=Ba.symm;subst Ba)|(go_at_call 79;refine(H2.out _).mono ?_;rintro e wz ⟨rfl,Ba⟩;have Ba:=Ba.symm;subst Ba)|(go_at_call 80;refine(H3.out _).mono ?_;rintro e wz ⟨rfl,Ba⟩;have Ba:=Ba.symm;subst Ba)|(go_at_call 81;refine(HR.out _).mono ?_;rintro e wz ⟨rfl,Ba⟩;have Ba:=Ba.symm;subst Ba)|(go_at_call 82;refine(J2.out _).mono ?_;rintro e w2 ⟨rfl,x2⟩;have Bn:=qaa (J7.out _ x2);have X2:=qaa (bt HB.out x2 Yi);clear x2;obtain⟨c0,c1,c2,c3,c4,c5,f0,f1,f2,f3,f4,f5⟩:=qcw Bn.out));obtain⟨⟨r0,r1,r2,r3,r4,r5⟩,B9⟩:=qcs Bn.out X2.out Dj.out (.int .i64 0) (.string ⟨#[]⟩) (.int .i64 0) (.int .i64 0) (.int .i64 0) (.int .i64 0);clear c0 c1 c2 c3 c4 c5 f0 f1 f2 f3 f4 f5;generalize ((((((w2.setCell ⟨P,0,none⟩ (.int .i64 0)).setCell ⟨P,1,none⟩ (.string ⟨#[]⟩)).setCell ⟨P,2,none⟩ (.int .i64 0)).setCell ⟨P,3,none⟩ (.int .i64 0)).setCell ⟨P,4,none⟩ (.int .i64 0)).setCell ⟨P,5,none⟩ (.int .i64 0))=W9 at *;refine Yg (by simp[results,Tryz.results54,go_sem,r0,r1,r2,r3,r4,r5];try rfl) rfl ?_;refine⟨qgg Dw.out rfl,B9⟩
   ·have hl':¬(32:Int)<(run.length:Int):=by omega
    have Dw:Hid (qct (s.drop q)=.ok (⟨2,run,0,0,0,0⟩,run.length)):=by
     unfold Hid;rw[Dk.out];unfold qet;rw[if_pos rfl,if_neg hl,hwd];rfl
    clear hwd Dk;go_wp2_with (first|(go_at_call 78;refine(H1.out _).mono ?_;rintro e wz ⟨rfl,Ba⟩;have Ba:=Ba.symm;subst Ba)|(go_at_call 79;refine(H2.out _).mono ?_;rintro e wz ⟨rfl,Ba⟩;have Ba:=Ba.symm;subst Ba)|(go_at_call 80;refine(H3.out _).mono ?_;rintro e wz ⟨rfl,Ba⟩;have Ba:=Ba.symm;subst Ba)|(go_at_call 81;refine(HR.out _).mono ?_;rintro e wz ⟨rfl,Ba⟩;have Ba:=Ba.symm;subst Ba)|(go_at_call 82;refine(J2.out _).mono ?_;rintro e w2 ⟨rfl,x2⟩;have Bn:=qaa (J7.out _ x2);have X2:=qaa (bt HB.out x2 Yi);clear x2;obtain⟨c0,c1,c2,c3,c4,c5,f0,f1,f2,f3,f4,f5⟩:=qcw Bn.out));obtain⟨⟨r0,r1,r2,r3,r4,r5⟩,B9⟩:=qcs Bn.out X2.out Dj.out (.int .i64 2) (.string ((⟨s.toArray⟩:ByteArray).extract q E)) (.int .i64 0) (.int .i64 0) (.int .i64 0) (.int .i64 0);clear c0 c1 c2 c3 c4 c5 f0 f1 f2 f3 f4 f5;generalize ((((((w2.setCell ⟨P,0,none⟩ (.int .i64 2)).setCell ⟨P,1,none⟩ (.string ((⟨s.toArray⟩:ByteArray).extract q E))).setCell ⟨P,2,none⟩ (.int .i64 0)).setCell ⟨P,3,none⟩ (.int .i64 0)).setCell ⟨P,4,none⟩ (.int .i64 0)).setCell ⟨P,5,none⟩ (.int .i64 0))=W9 at *;refine Yg (by simp[results,Tryz.results54,go_sem,r0,r1,r2,r3,r4,r5];try rfl) rfl ?_;refine⟨qg0 Dw.out EA.out (by rw[Ee.out];rfl),B9⟩
 ·have Em:smB (y.toNat:Int)=false:=by simpa using hsm
  rw[Em] at H1;by_cases hgr:grB (y.toNat:Int)=true
  ·obtain⟨E,run,hne,hrun,hE,hEl,hcut,hr⟩:=J8.out 2 (.inr (.inl rfl)) (qkn hgr)
   have HR:=qaa hr;have hrun:((s.drop q).takeWhile fun b=>goB 3 (bI b))=run:=hrun;clear hr J8;have Dk:Hid (qct (s.drop q)=(qet 3 run).map fun z=>(z,run.length)):=by
    unfold Hid;rw[←hrun,HD.out];rw[qct,if_neg (show ¬smB (bI y)=true from hsm),if_pos (show grB (bI y)=true from hgr)]
   clear hrun;have hE2:(q:Int)≤(E:Int):=by omega
   have hE3:(E:Int)≤(s.length:Int):=by omega
   have hE4:IntKind.i64.wrap ((E:Int)-(q:Int))=(run.length:Int):=by rw[show(E:Int)-(q:Int)=(run.length:Int) by omega];simp[IntKind.wrap,IntKind.bits,IntKind.signed];omega
   have EA:Hid ((E:Int)=((q+run.length:Nat):Int)):=by unfold Hid;rw[hE]
   have Nf:=qaa hEl;have Ee:=qaa hcut;clear hE hEl hcut;rw[hgr] at H2;clear hgr hne hsm;obtain⟨c0,c1,c2,c3,c4,c5,f0,f1,f2,f3,f4,f5⟩:=qcw HK.out;by_cases hl:16<run.length
   ·have hl':(16:Int)<(run.length:Int):=by omega
    have Dw:Hid (qct (s.drop q)=.error 82):=by
     unfold Hid;rw[Dk.out];unfold qet;rw[if_neg (by decide),if_pos rfl,if_pos hl];rfl
    clear Dk;go_wp2_with (first|(go_at_call 78;refine(H1.out _).mono ?_;rintro e wz ⟨rfl,Ba⟩;have Ba:=Ba.symm;subst Ba)|(go_at_call 79;refine(H2.out _).mono ?_;rintro e wz ⟨rfl,Ba⟩;have Ba:=Ba.symm;subst Ba)|(go_at_call 80;refine(H3.out _).mono ?_;rintro e wz ⟨rfl,Ba⟩;have Ba:=Ba.symm;subst Ba)|(go_at_call 81;refine(HR.out _).mono ?_;rintro e wz ⟨rfl,Ba⟩;have Ba:=Ba.symm;subst Ba));obtain⟨⟨r0,r1,r2,r3,r4,r5⟩,B9⟩:=qcs HK.out HB.out Dj.out (.int .i64 0) (.string ⟨#[]⟩) (.int .i64 0) (.int .i64 0) (.int .i64 0) (.int .i64 0);clear c0 c1 c2 c3 c4 c5 f0 f1 f2 f3 f4 f5;generalize ((((((W.setCell ⟨P,0,none⟩ (.int .i64 0)).setCell ⟨P,1,none⟩ (.string ⟨#[]⟩)).setCell ⟨P,2,none⟩ (.int .i64 0)).setCell ⟨P,3,none⟩ (.int .i64 0)).setCell ⟨P,4,none⟩ (.int .i64 0)).setCell ⟨P,5,none⟩ (.int .i64 0))=W9 at *;refine Yg (by simp[results,Tryz.results54,go_sem,r0,r1,r2,r3,r4,r5];try rfl) rfl ?_;refine⟨qgg Dw.out rfl,B9⟩
   ·have hl':¬(16:Int)<(run.length:Int):=by omega
    have Dw:Hid (qct (s.drop q)=.ok (⟨3,run,0,0,0,0⟩,run.length)):=by
     unfold Hid;rw[Dk.out];unfold qet;rw[if_neg (by decide),if_pos rfl,if_neg hl];rfl
    clear Dk;go_wp2_with (first|(go_at_call 78;refine(H1.out _).mono ?_;rintro e wz ⟨rfl,Ba⟩;have Ba:=Ba.symm;subst Ba)|(go_at_call 79;refine(H2.out _).mono ?_;rintro e wz ⟨rfl,Ba⟩;have Ba:=Ba.symm;subst Ba)|(go_at_call 80;refine(H3.out _).mono ?_;rintro e wz ⟨rfl,Ba⟩;have Ba:=Ba.symm;subst Ba)|(go_at_call 81;refine(HR.out _).mono ?_;rintro e wz ⟨rfl,Ba⟩;have Ba:=Ba.symm;subst Ba));obtain⟨⟨r0,r1,r2,r3,r4,r5⟩,B9⟩:=qcs HK.out HB.out Dj.out (.int .i64 3) (.string ((⟨s.toArray⟩:ByteArray).extract q E)) (.int .i64 0) (.int .i64 0) (.int .i64 0) (.int .i64 0);clear c0 c1 c2 c3 c4 c5 f0 f1 f2 f3 f4 f5;generalize ((((((W.setCell ⟨P,0,none⟩ (.int .i64 3)).setCell ⟨P,1,none⟩ (.string ((⟨s.toArray⟩:ByteArray).extract q E))).setCell ⟨P,2,none⟩ (.int .i64 0)).setCell ⟨P,3,none⟩ (.int .i64 0)).setCell ⟨P,4,none⟩ (.int .i64 0)).setCell ⟨P,5,none⟩ (.int .i64 0))=W9 at *;refine Yg (by simp[results,Tryz.results54,go_sem,r0,r1,r2,r3,r4,r5];try rfl) rfl ?_;refine⟨qg0 Dw.out EA.out (by rw[Ee.out];rfl),B9⟩
  ·have EB:grB (y.toNat:Int)=false:=by simpa using hgr
   rw[EB] at H2;by_cases hdg:dgB (y.toNat:Int)=true
   ·obtain⟨E,run,hne,hrun,hE,hEl,hcut,hr⟩:=J8.out 3 (.inr (.inr rfl)) (qko hdg)
    have HR:=qaa hr;have hrun:((s.drop q).takeWhile fun b=>goB 4 (bI b))=run:=hrun;clear hr J8;have Dk:Hid (qct (s.drop q)=(qet 4 run).map fun z=>(z,run.length)):=by
     unfold Hid;rw[←hrun,HD.out];rw[qct,if_neg (show ¬smB (bI y)=true from hsm),if_neg (show ¬grB (bI y)=true from hgr),if_pos (show dgB (bI y)=true from hdg)]
    clear hrun;have hE2:(q:Int)≤(E:Int):=by omega
    have hE3:(E:Int)≤(s.length:Int):=by omega
    have hE4:IntKind.i64.wrap ((E:Int)-(q:Int))=(run.length:Int):=by rw[show(E:Int)-(q:Int)=(run.length:Int) by omega];simp[IntKind.wrap,IntKind.bits,IntKind.signed];omega
    have EA:Hid ((E:Int)=((q+run.length:Nat):Int)):=by unfold Hid;rw[hE]
    have Nf:=qaa hEl;have Ee:=qaa hcut;clear hE hEl hcut;rw[hdg] at H3;clear hdg hsm hgr;have Ms:=qaa (qr6 hne);have Mt:Hid (∀V,Calls Tryz.prog 83 #[.string ((⟨s.toArray⟩:ByteArray).extract q E)] V fun e w'=>NbD run e∧Below V.heap.size V w'):=fun V=>by rw[Ee.out];exact qiw run hne (by have:=Nf.out;have:=EA.out;omega) V
    clear hne;cases hdt:dgT run with
    |none=>
     have J9:Hid (∀V,Calls Tryz.prog 83 #[.string ((⟨s.toArray⟩:ByteArray).extract q E)] V fun e w'=>(∃z:Tk,e=.returned (.tuple #[.agg #[.int .i64 z.k,.string ⟨z.t.toArray⟩,.int .i64 z.n,.int .i64 z.a,.int .i64 z.b,.int .i64 z.p],.bool false]))∧Below V.heap.size V w'):=fun V=>by
      refine(Mt.out V).mono ?_;rintro e w' ⟨⟨z,rfl,h2⟩,x⟩;rw[Ms.out,hdt];exact⟨⟨z,rfl⟩,x⟩
     have Dw:Hid (qct (s.drop q)=.error 81):=by
      unfold Hid;rw[Dk.out];unfold qet;rw[if_neg (by decide),if_neg (by decide),hdt];rfl
     clear hdt Dk Mt Ms;go_wp2_with (first|(go_at_call 78;refine(H1.out _).mono ?_;rintro e wz ⟨rfl,Ba⟩;have Ba:=Ba.symm;subst Ba)|(go_at_call 79;refine(H2.out _).mono ?_;rintro e wz ⟨rfl,Ba⟩;have Ba:=Ba.symm;subst Ba)|(go_at_call 80;refine(H3.out _).mono ?_;rintro e wz ⟨rfl,Ba⟩;have Ba:=Ba.symm;subst Ba)|(go_at_call 81;refine(HR.out _).mono ?_;rintro e wz ⟨rfl,Ba⟩;have Ba:=Ba.symm;subst Ba)|(go_at_call 83;refine(J9.out _).mono ?_;rintro e w2 ⟨⟨z,rfl⟩,x2⟩;have Bn:=qaa (J7.out _ (al x2 (.cells #[.int .i64 z.k,.string ⟨z.t.toArray⟩,.int .i64 z.n,.int .i64 z.a,.int .i64 z.b,.int .i64 z.p] 49)));have X2:=qaa (al (bt HB.out x2 Yi) (.cells #[.int .i64 z.k,.string ⟨z.t.toArray⟩,.int .i64 z.n,.int .i64 z.a,.int .i64 z.b,.int .i64 z.p] 49));clear x2;obtain⟨c0,c1,c2,c3,c4,c5,f0,f1,f2,f3,f4,f5⟩:=qcw Bn.out));obtain⟨⟨r0,r1,r2,r3,r4,r5⟩,B9⟩:=qcs Bn.out X2.out Dj.out (.int .i64 0) (.string ⟨#[]⟩) (.int .i64 0) (.int .i64 0) (.int .i64 0) (.int .i64 0);clear c0 c1 c2 c3 c4 c5 f0 f1 f2 f3 f4 f5;generalize (((((((w2.alloc (.cells #[.int .i64 z.k,.string ⟨z.t.toArray⟩,.int .i64 z.n,.int .i64 z.a,.int .i64 z.b,.int .i64 z.p] 49)).setCell ⟨P,0,none⟩ (.int .i64 0)).setCell ⟨P,1,none⟩ (.string ⟨#[]⟩)).setCell ⟨P,2,none⟩ (.int .i64 0)).setCell ⟨P,3,none⟩ (.int .i64 0)).setCell ⟨P,4,none⟩ (.int .i64 0)).setCell ⟨P,5,none⟩ (.int .i64 0))=W9 at *;refine Yg (by simp[results,Tryz.results54,go_sem,r0,r1,r2,r3,r4,r5];try rfl) rfl ?_;refine⟨qgg Dw.out rfl,B9⟩
    |some z=>
     have J9:Hid (∀V,Calls Tryz.prog 83 #[.string ((⟨s.toArray⟩:ByteArray).extract q E)] V fun e w'=>e=.returned (.tuple #[.agg #[.int .i64 z.k,.string ⟨z.t.toArray⟩,.int .i64 z.n,.int .i64 z.a,.int .i64 z.b,.int .i64 z.p],.bool true])∧Below V.heap.size V w'):=fun V=>by
      refine(Mt.out V).mono ?_;rintro e w' ⟨⟨z',rfl,h2⟩,x⟩;rw[Ms.out,hdt] at h2 ⊢;obtain rfl:=h2 z rfl;exact⟨rfl,x⟩
     have Dw:Hid (qct (s.drop q)=.ok (z,run.length)):=by
      unfold Hid;rw[Dk.out];unfold qet;rw[if_neg (by decide),if_neg (by decide),hdt];rfl
     clear hdt Dk Mt Ms;go_wp2_with (first|(go_at_call 78;refine(H1.out _).mono ?_;rintro e wz ⟨rfl,Ba⟩;have Ba:=Ba.symm;subst Ba)|(go_at_call 79;refine(H2.out _).mono ?_;rintro e wz ⟨rfl,Ba⟩;have Ba:=Ba.symm;subst Ba)|(go_at_call 80;refine(H3.out _).mono ?_;rintro e wz ⟨rfl,Ba⟩;have Ba:=Ba.symm;subst Ba)|(go_at_call 81;refine(HR.out _).mono ?_;rintro e wz ⟨rfl,Ba⟩;have Ba:=Ba.symm;subst Ba)|(go_at_call 83;refine(J9.out _).mono ?_;rintro e w2 ⟨rfl,x2⟩;have Bn:=qaa (J7.out _ (al x2 (.cells #[.int .i64 z.k,.string ⟨z.t.toArray⟩,.int .i64 z.n,.int .i64 z.a,.int .i64 z.b,.int .i64 z.p] 49)));have X2:=qaa (al (bt HB.out x2 Yi) (.cells #[.int .i64 z.k,.string ⟨z.t.toArray⟩,.int .i64 z.n,.int .i64 z.a,.int .i64 z.b,.int .i64 z.p] 49));clear x2;obtain⟨c0,c1,c2,c3,c4,c5,f0,f1,f2,f3,f4,f5⟩:=qcw Bn.out));obtain⟨⟨r0,r1,r2,r3,r4,r5⟩,B9⟩:=qcs Bn.out X2.out Dj.out (.int .i64 z.k) (.string ⟨z.t.toArray⟩) (.int .i64 z.n) (.int .i64 z.a) (.int .i64 z.b) (.int .i64 z.p);clear c0 c1 c2 c3 c4 c5 f0 f1 f2 f3 f4 f5;generalize (((((((w2.alloc (.cells #[.int .i64 z.k,.string ⟨z.t.toArray⟩,.int .i64 z.n,.int .i64 z.a,.int .i64 z.b,.int .i64 z.p] 49)).setCell ⟨P,0,none⟩ (.int .i64 z.k)).setCell ⟨P,1,none⟩ (.string ⟨z.t.toArray⟩)).setCell ⟨P,2,none⟩ (.int .i64 z.n)).setCell ⟨P,3,none⟩ (.int .i64 z.a)).setCell ⟨P,4,none⟩ (.int .i64 z.b)).setCell ⟨P,5,none⟩ (.int .i64 z.p))=W9 at *;refine Yg (by simp[results,Tryz.results54,go_sem,r0,r1,r2,r3,r4,r5];try rfl) rfl ?_;refine⟨qg0 Dw.out EA.out rfl,B9⟩
   ·have EL:dgB (y.toNat:Int)=false:=by simpa using hdg
    rw[EL] at H3;clear J8;by_cases BZ:y=34
    ·subst BZ
     have Mv:=qaa (qoo s hs q (by omega));have Dk:Hid (qct (s.drop q)=match txL [] (s.drop (q+1)) with|some (m,n)=>.ok (⟨6,m,0,0,0,0⟩,n+1)|none=>.error 83):=by
      unfold Hid;rw[HD.out,qct,if_neg (show ¬smB (bI 34)=true from hsm),if_neg (show ¬grB (bI 34)=true from hgr),if_neg (show ¬dgB (bI 34)=true from hdg),if_pos rfl];rfl
     clear hsm hgr hdg;cases htx:txL [] (s.drop (q+1)) with
     |none=>
      have JA:Hid (∀V,Calls Tryz.prog 84 #[.string ⟨s.toArray⟩,.int .i64 (q:Int)] V fun e w'=>(∃(t:By) (n:Int),e=.returned (.tuple #[.string ⟨t.toArray⟩,.int .i64 n,.bool false]))∧Below V.heap.size V w'):=fun V=>by
       refine(Mv.out V).mono ?_;rintro e w' ⟨⟨t,n,b,rfl,h2⟩,x⟩;rw[htx] at h2;subst h2;exact⟨⟨t,n,rfl⟩,x⟩
      have Dw:Hid (qct (s.drop q)=.error 83):=by
       unfold Hid;rw[Dk.out,htx]
      clear htx Dk Mv;go_wp2_with (first|(go_at_call 78;refine(H1.out _).mono ?_;rintro e wz ⟨rfl,Ba⟩;have Ba:=Ba.symm;subst Ba)|(go_at_call 79;refine(H2.out _).mono ?_;rintro e wz ⟨rfl,Ba⟩;have Ba:=Ba.symm;subst Ba)|(go_at_call 80;refine(H3.out _).mono ?_;rintro e wz ⟨rfl,Ba⟩;have Ba:=Ba.symm;subst Ba)|(go_at_call 84;refine(JA.out _).mono ?_;rintro e w2 ⟨⟨t,n,rfl⟩,x2⟩;have Bn:=qaa (J7.out _ x2);have X2:=qaa (bt HB.out x2 Yi);clear x2;obtain⟨c0,c1,c2,c3,c4,c5,f0,f1,f2,f3,f4,f5⟩:=qcw Bn.out));obtain⟨⟨r0,r1,r2,r3,r4,r5⟩,B9⟩:=qcs Bn.out X2.out Dj.out (.int .i64 0) (.string ⟨#[]⟩) (.int .i64 0) (.int .i64 0) (.int .i64 0) (.int .i64 0);clear c0 c1 c2 c3 c4 c5 f0 f1 f2 f3 f4 f5;generalize ((((((w2.setCell ⟨P,0,none⟩ (.int .i64 0)).setCell ⟨P,1,none⟩ (.string ⟨#[]⟩)).setCell ⟨P,2,none⟩ (.int .i64 0)).setCell ⟨P,3,none⟩ (.int .i64 0)).setCell ⟨P,4,none⟩ (.int .i64 0)).setCell ⟨P,5,none⟩ (.int .i64 0))=W9 at *;refine Yg (by simp[results,Tryz.results54,go_sem,r0,r1,r2,r3,r4,r5];try rfl) rfl ?_;refine⟨qgg Dw.out rfl,B9⟩
     |some p=>
      obtain⟨m,n⟩:=p;have JA:Hid (∀V,Calls Tryz.prog 84 #[.string ⟨s.toArray⟩,.int .i64 (q:Int)] V fun e w'=>e=.returned (.tuple #[.string ⟨m.toArray⟩,.int .i64 ((q+1+n:Nat):Int),.bool true])∧Below V.heap.size V w'):=fun V=>by
       refine(Mv.out V).mono ?_;rintro e w' ⟨⟨t,n',b,rfl,h2⟩,x⟩;rw[htx] at h2;obtain⟨rfl,rfl,rfl⟩:=h2;exact⟨rfl,x⟩
      have Dw:Hid (qct (s.drop q)=.ok (⟨6,m,0,0,0,0⟩,n+1)):=by
       unfold Hid;rw[Dk.out,htx]
      clear htx Dk Mv;have EA:Hid (((q+1+n:Nat):Int)=((q+(n+1):Nat):Int)):=by unfold Hid;congr 1;omega
      generalize ((q+1+n:Nat):Int)=E at *;go_wp2_with (first|(go_at_call 78;refine(H1.out _).mono ?_;rintro e wz ⟨rfl,Ba⟩;have Ba:=Ba.symm;subst Ba)|(go_at_call 79;refine(H2.out _).mono ?_;rintro e wz ⟨rfl,Ba⟩;have Ba:=Ba.symm;subst Ba)|(go_at_call 80;refine(H3.out _).mono ?_;rintro e wz ⟨rfl,Ba⟩;have Ba:=Ba.symm;subst Ba)|(go_at_call 84;refine(JA.out _).mono ?_;rintro e w2 ⟨rfl,x2⟩;have Bn:=qaa (J7.out _ x2);have X2:=qaa (bt HB.out x2 Yi);clear x2;obtain⟨c0,c1,c2,c3,c4,c5,f0,f1,f2,f3,f4,f5⟩:=qcw Bn.out));obtain⟨⟨r0,r1,r2,r3,r4,r5⟩,B9⟩:=qcs Bn.out X2.out Dj.out (.int .i64 6) (.string ⟨m.toArray⟩) (.int .i64 0) (.int .i64 0) (.int .i64 0) (.int .i64 0);clear c0 c1 c2 c3 c4 c5 f0 f1 f2 f3 f4 f5;generalize ((((((w2.setCell ⟨P,0,none⟩ (.int .i64 6)).setCell ⟨P,1,none⟩ (.string ⟨m.toArray⟩)).setCell ⟨P,2,none⟩ (.int .i64 0)).setCell ⟨P,3,none⟩ (.int .i64 0)).setCell ⟨P,4,none⟩ (.int .i64 0)).setCell ⟨P,5,none⟩ (.int .i64 0))=W9 at *;refine Yg (by simp[results,Tryz.results54,go_sem,r0,r1,r2,r3,r4,r5];try rfl) rfl ?_;refine⟨qg0 Dw.out EA.out rfl,B9⟩
    ·have n34:¬(y.toNat:Int)=34:=fun e=>BZ (UInt8.toNat_inj.1 (by show y.toNat=34;omega))
     have b34:((y.toNat:Int)==34)=false:=beq_eq_false_iff_ne.2 n34;have Dk:Hid (qct (s.drop q)=if qbm.contains y=true then .ok (⟨7,[y],0,0,0,0⟩,1) else .error 80):=by
      unfold Hid;rw[HD.out,qct,if_neg (show ¬smB (bI y)=true from hsm),if_neg (show ¬grB (bI y)=true from hgr),if_neg (show ¬dgB (bI y)=true from hdg),if_neg BZ,qt5]
     have PI:Hid (∀hk:q<s.length,s[q]=y):=fun hk=>by
      have:=HD.out;rw[List.drop_eq_getElem_cons hk] at this;exact(List.cons.inj this).1
     clear hsm hgr hdg BZ;have f1:IntKind.i64.wrap ((q:Int)+1)=(q:Int)+1:=by rw[show(q:Int)+1=((q+1:Nat):Int) by simp];simp[IntKind.wrap,IntKind.bits,IntKind.signed];omega
     have hq1:(q:Int)+1≤(s.length:Int):=by omega
     have hq2:(q:Int)≤(q:Int)+1:=by omega
     have t1:((q:Int)+1).toNat=q+1:=by omega
     go_wp2_with (first|(go_at_call 78;refine(H1.out _).mono ?_;rintro e wz ⟨rfl,Ba⟩;have Ba:=Ba.symm;subst Ba)|(go_at_call 79;refine(H2.out _).mono ?_;rintro e wz ⟨rfl,Ba⟩;have Ba:=Ba.symm;subst Ba)|(go_at_call 80;refine(H3.out _).mono ?_;rintro e wz ⟨rfl,Ba⟩;have Ba:=Ba.symm;subst Ba));go_loopg [20] 10 (fun g x wr=>∃i:Nat,x=.int .i64 (i:Nat)∧i≤9∧Hid (∀j (hj:j<qbm.length),j<i→qbm[j]≠y)∧wr=W∧9-i<g)
     case atStart=>exact⟨0,rfl,by omega,fun j _ h=>by omega,rfl,by omega⟩
     case round=>
      obtain⟨i,rfl,hi1,HI,hw,hg⟩:=hrel;have hw:=hw.symm;subst hw;have HG:=qaa hg;clear hg;by_cases hi:i<9
      ·have hi':(i:Int)<9:=by omega
       obtain⟨b,hb⟩:∃b:UInt8,qbm[i]'hi=b:=⟨_,rfl⟩;have hix:∀hk,(⟨#[123,125,40,41,44,59,61,126,45]⟩:ByteArray)[i]'hk=b:=fun hk=>(qcz qbm i hk).trans hb
       by_cases hby:b=y
       ·subst hby
        have Dw:Hid (qct (s.drop q)=.ok (⟨7,[b],0,0,0,0⟩,1)):=by
         unfold Hid;rw[Dk.out,if_pos (List.contains_iff_mem.2 (hb▸List.getElem_mem hi))]
        clear Dk HI hb;have EA:Hid ((q:Int)+1=((q+1:Nat):Int)):=by unfold Hid;omega
        have hcut:(⟨s.toArray⟩:ByteArray).extract q (q+1)=⟨[b].toArray⟩:=by
         rw[qfq,qjh s (by omega),PI.out (by omega)]
        have Ee:=qaa hcut;clear hcut;obtain⟨c0,c1,c2,c3,c4,c5,f0,f1',f2,f3,f4,f5⟩:=qcw HK.out;go_wp2;obtain⟨⟨r0,r1,r2,r3,r4,r5⟩,B9⟩:=qcs HK.out HB.out Dj.out (.int .i64 7) (.string ((⟨s.toArray⟩:ByteArray).extract q (q+1))) (.int .i64 0) (.int .i64 0) (.int .i64 0) (.int .i64 0);clear c0 c1 c2 c3 c4 c5 f0 f1' f2 f3 f4 f5;generalize ((((((W.setCell ⟨P,0,none⟩ (.int .i64 7)).setCell ⟨P,1,none⟩ (.string ((⟨s.toArray⟩:ByteArray).extract q (q+1)))).setCell ⟨P,2,none⟩ (.int .i64 0)).setCell ⟨P,3,none⟩ (.int .i64 0)).setCell ⟨P,4,none⟩ (.int .i64 0)).setCell ⟨P,5,none⟩ (.int .i64 0))=W9 at *;refine Yg (by simp[results,Tryz.results54,go_sem,r0,r1,r2,r3,r4,r5];try rfl) rfl ?_;refine⟨qg0 Dw.out EA.out (by rw[Ee.out];rfl),B9⟩
       ·have nby:¬(b.toNat:Int)=(y.toNat:Int):=fun e=>hby (UInt8.toNat_inj.1 (by omega))
        have bby:((b.toNat:Int)==(y.toNat:Int))=false:=beq_eq_false_iff_ne.2 nby;have f2:IntKind.i64.wrap ((i:Int)+1)=(i:Int)+1:=by rw[show(i:Int)+1=((i+1:Nat):Int) by simp];simp[IntKind.wrap,IntKind.bits,IntKind.signed];omega
        have HI2:Hid (∀j (hj:j<qbm.length),j<i+1→qbm[j]≠y):=fun j hj h=>by
         by_cases h':j<i
         ·exact HI.out j hj h'
         ·obtain rfl:j=i:=by omega
          exact fun e=>hby (hb.symm.trans e)
        clear hb;go_wp2;go_roundg (9-(i+1)+1)
        case measure=>have:=HG.out;omega
        case rel=>exact⟨i+1,by first|rfl|go_num|(congr 1;omega),by omega,HI2,rfl,by omega⟩
      ·obtain rfl:i=9:=by omega
       have Dw:Hid (qct (s.drop q)=.error 80):=by
        unfold Hid;rw[Dk.out,if_neg];intro h;obtain⟨j,hj,PK⟩:=List.mem_iff_getElem.1 (List.contains_iff_mem.1 h);exact HI.out j hj hj PK
       clear Dk HI;obtain⟨c0,c1,c2,c3,c4,c5,f0,f1',f2,f3,f4,f5⟩:=qcw HK.out;go_wp2;obtain⟨⟨r0,r1,r2,r3,r4,r5⟩,B9⟩:=qcs HK.out HB.out Dj.out (.int .i64 0) (.string ⟨#[]⟩) (.int .i64 0) (.int .i64 0) (.int .i64 0) (.int .i64 0);clear c0 c1 c2 c3 c4 c5 f0 f1' f2 f3 f4 f5;generalize ((((((W.setCell ⟨P,0,none⟩ (.int .i64 0)).setCell ⟨P,1,none⟩ (.string ⟨#[]⟩)).setCell ⟨P,2,none⟩ (.int .i64 0)).setCell ⟨P,3,none⟩ (.int .i64 0)).setCell ⟨P,4,none⟩ (.int .i64 0)).setCell ⟨P,5,none⟩ (.int .i64 0))=W9 at *;refine Yg (by simp[results,Tryz.results54,go_sem,r0,r1,r2,r3,r4,r5];try rfl) rfl ?_;refine⟨qgg Dw.out rfl,B9⟩
end Go.Proofs.YtlmhofjiobmodaaGreatDoor

