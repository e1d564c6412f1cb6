/-
  Holds of the kind of a negation, the reader's not by their contracts. Condition: conditions are read so.
-/
import Derived.Test.YtlmhofjiobmodaaGreatDoorP12
import Derived.Test.YtlmhofjiobmodaaGreatDoorP07
set_option maxRecDepth 100000
set_option maxHeartbeats 16000000
namespace Go.Proofs.YtlmhofjiobmodaaGreatDoor
open Go.RowKit Go.Lib
theorem qtd (w:World):(Instr.index 152 (.agg #[.string ⟨#[111,114]⟩,.int .i64 6,.int .i64 1,.string ⟨#[97,110,100]⟩,.int .i64 5,.int .i64 2,.string ⟨#[110,111,116]⟩,.int .i64 4,.int .i64 2]) (.int .i64 0)).run Tryz.prog w=.ok (.agg #[.string ⟨#[111,114]⟩,.int .i64 6,.int .i64 1]) w:=by kernel_rfl
theorem qte (w:World):(Instr.index 152 (.agg #[.string ⟨#[111,114]⟩,.int .i64 6,.int .i64 1,.string ⟨#[97,110,100]⟩,.int .i64 5,.int .i64 2,.string ⟨#[110,111,116]⟩,.int .i64 4,.int .i64 2]) (.int .i64 1)).run Tryz.prog w=.ok (.agg #[.string ⟨#[97,110,100]⟩,.int .i64 5,.int .i64 2]) w:=by kernel_rfl
theorem qtf (w:World):(Instr.index 152 (.agg #[.string ⟨#[111,114]⟩,.int .i64 6,.int .i64 1,.string ⟨#[97,110,100]⟩,.int .i64 5,.int .i64 2,.string ⟨#[110,111,116]⟩,.int .i64 4,.int .i64 2]) (.int .i64 2)).run Tryz.prog w=.ok (.agg #[.string ⟨#[110,111,116]⟩,.int .i64 4,.int .i64 2]) w:=by kernel_rfl
theorem qld (w:World):Calls Tryz.prog 138 #[.int .i64 4] w fun e w'=>e=.returned (.int .i64 2)∧Below w.heap.size w w':=by
 have HO:=qaa (qaq w);go_enter Tryz.func138,Tryz.ntmps138;go_upto_region 2 with(go_at_call 116;refine HO.out.mono ?_;rintro e w1 ⟨rfl,x1⟩;have X1:=qaa x1;clear x1)
 have HB:=qaa (Yh w1 (.cells #[.string ⟨#[111,114]⟩,.int .i64 6,.int .i64 1,.string ⟨#[97,110,100]⟩,.int .i64 5,.int .i64 2,.string ⟨#[110,111,116]⟩,.int .i64 4,.int .i64 2] 152));have X2:=qaa (bt X1.out (show Below w1.heap.size w1 (w1.alloc (.cells #[.string ⟨#[111,114]⟩,.int .i64 6,.int .i64 1,.string ⟨#[97,110,100]⟩,.int .i64 5,.int .i64 2,.string ⟨#[110,111,116]⟩,.int .i64 4,.int .i64 2] 152)) from al Yj _) Yi);generalize w1.alloc (.cells #[.string ⟨#[111,114]⟩,.int .i64 6,.int .i64 1,.string ⟨#[97,110,100]⟩,.int .i64 5,.int .i64 2,.string ⟨#[110,111,116]⟩,.int .i64 4,.int .i64 2] 152)=w2 at *;have q0:w2.cell? ⟨w1.heap.size,0,none⟩=#[.string ⟨#[111,114]⟩,.int .i64 6,.int .i64 1,.string ⟨#[97,110,100]⟩,.int .i64 5,.int .i64 2,.string ⟨#[110,111,116]⟩,.int .i64 4,.int .i64 2][0]? :=by rw[Ye _ _ _ _ _ _ HB.out]
 have q1:w2.cell? ⟨w1.heap.size,1,none⟩=#[.string ⟨#[111,114]⟩,.int .i64 6,.int .i64 1,.string ⟨#[97,110,100]⟩,.int .i64 5,.int .i64 2,.string ⟨#[110,111,116]⟩,.int .i64 4,.int .i64 2][1]? :=by rw[Ye _ _ _ _ _ _ HB.out]
 have q2:w2.cell? ⟨w1.heap.size,2,none⟩=#[.string ⟨#[111,114]⟩,.int .i64 6,.int .i64 1,.string ⟨#[97,110,100]⟩,.int .i64 5,.int .i64 2,.string ⟨#[110,111,116]⟩,.int .i64 4,.int .i64 2][2]? :=by rw[Ye _ _ _ _ _ _ HB.out]
 have q3:w2.cell? ⟨w1.heap.size,3,none⟩=#[.string ⟨#[111,114]⟩,.int .i64 6,.int .i64 1,.string ⟨#[97,110,100]⟩,.int .i64 5,.int .i64 2,.string ⟨#[110,111,116]⟩,.int .i64 4,.int .i64 2][3]? :=by rw[Ye _ _ _ _ _ _ HB.out]
 have q4:w2.cell? ⟨w1.heap.size,4,none⟩=#[.string ⟨#[111,114]⟩,.int .i64 6,.int .i64 1,.string ⟨#[97,110,100]⟩,.int .i64 5,.int .i64 2,.string ⟨#[110,111,116]⟩,.int .i64 4,.int .i64 2][4]? :=by rw[Ye _ _ _ _ _ _ HB.out]
 have q5:w2.cell? ⟨w1.heap.size,5,none⟩=#[.string ⟨#[111,114]⟩,.int .i64 6,.int .i64 1,.string ⟨#[97,110,100]⟩,.int .i64 5,.int .i64 2,.string ⟨#[110,111,116]⟩,.int .i64 4,.int .i64 2][5]? :=by rw[Ye _ _ _ _ _ _ HB.out]
 have q6:w2.cell? ⟨w1.heap.size,6,none⟩=#[.string ⟨#[111,114]⟩,.int .i64 6,.int .i64 1,.string ⟨#[97,110,100]⟩,.int .i64 5,.int .i64 2,.string ⟨#[110,111,116]⟩,.int .i64 4,.int .i64 2][6]? :=by rw[Ye _ _ _ _ _ _ HB.out]
 have q7:w2.cell? ⟨w1.heap.size,7,none⟩=#[.string ⟨#[111,114]⟩,.int .i64 6,.int .i64 1,.string ⟨#[97,110,100]⟩,.int .i64 5,.int .i64 2,.string ⟨#[110,111,116]⟩,.int .i64 4,.int .i64 2][7]? :=by rw[Ye _ _ _ _ _ _ HB.out]
 have q8:w2.cell? ⟨w1.heap.size,8,none⟩=#[.string ⟨#[111,114]⟩,.int .i64 6,.int .i64 1,.string ⟨#[97,110,100]⟩,.int .i64 5,.int .i64 2,.string ⟨#[110,111,116]⟩,.int .i64 4,.int .i64 2][8]? :=by rw[Ye _ _ _ _ _ _ HB.out]
 simp at q0 q1 q2 q3 q4 q5 q6 q7 q8;go_wp2;clear q0 q1 q2 q3 q4 q5 q6 q7 q8 HB;go_loopg [8] 4 (fun gg x wr=>∃k:Nat,x=.int .i64 (k:Nat)∧k≤2∧Hid (Below w.heap.size w wr)∧3-k<gg)
 case atStart=>exact⟨0,rfl,by omega,X2,by omega⟩
 case round=>
  obtain⟨k,rfl,hk,XR,hg⟩:=hrel;have HG:=qaa hg;clear hg;rcases (by omega:k=0∨k=1∨k=2) with rfl|rfl|rfl
  ·clear hk
   have ix:=qtd;go_wp2;go_roundg 3
   case measure=>have:=HG.out;omega
   case rel=>exact⟨1,by first|rfl|go_num,by omega,(by first|exact al XR.out _|exact qaa (al XR.out _)),by omega⟩
  ·clear hk
   have ix:=qte;go_wp2;go_roundg 2
   case measure=>have:=HG.out;omega
   case rel=>exact⟨2,by first|rfl|go_num,by omega,(by first|exact al XR.out _|exact qaa (al XR.out _)),by omega⟩
  ·clear hk
   have ix:=qtf;go_wp2;go_ret;exact⟨rfl,al XR.out _⟩
def qsp (k:Int):Nat:=if k=6 then 0 else if k=5 then 1 else if k=4 then 2 else 3
theorem qcp (ck:Int) (w:World):Calls Tryz.prog 138 #[.int .i64 ck] w fun e w'=>e=.returned (.int .i64 (qsp ck:Nat))∧Below w.heap.size w w':=by
 have HO:=qaa (qaq w);go_enter Tryz.func138,Tryz.ntmps138;go_upto_region 2 with(go_at_call 116;refine HO.out.mono ?_;rintro e w1 ⟨rfl,x1⟩;have X1:=qaa x1;clear x1)
 have HB:=qaa (Yh w1 (.cells #[.string ⟨#[111,114]⟩,.int .i64 6,.int .i64 1,.string ⟨#[97,110,100]⟩,.int .i64 5,.int .i64 2,.string ⟨#[110,111,116]⟩,.int .i64 4,.int .i64 2] 152));have X2:=qaa (bt X1.out (show Below w1.heap.size w1 (w1.alloc (.cells #[.string ⟨#[111,114]⟩,.int .i64 6,.int .i64 1,.string ⟨#[97,110,100]⟩,.int .i64 5,.int .i64 2,.string ⟨#[110,111,116]⟩,.int .i64 4,.int .i64 2] 152)) from al Yj _) Yi);generalize w1.alloc (.cells #[.string ⟨#[111,114]⟩,.int .i64 6,.int .i64 1,.string ⟨#[97,110,100]⟩,.int .i64 5,.int .i64 2,.string ⟨#[110,111,116]⟩,.int .i64 4,.int .i64 2] 152)=w2 at *;have q:∀j,w2.cell? ⟨w1.heap.size,j,none⟩=#[.string ⟨#[111,114]⟩,.int .i64 6,.int .i64 1,.string ⟨#[97,110,100]⟩,.int .i64 5,.int .i64 2,.string ⟨#[110,111,116]⟩,.int .i64 4,.int .i64 2][j]? :=fun j=>by rw[Ye _ _ _ _ _ _ HB.out]
 have q0:=q 0;have q1:=q 1;have q2:=q 2;have q3:=q 3;have q4:=q 4;have q5:=q 5;have q6:=q 6;have q7:=q 7;have q8:=q 8;clear q;simp at q0 q1 q2 q3 q4 q5 q6 q7 q8;go_wp2;clear q0 q1 q2 q3 q4 q5 q6 q7 q8 HB;go_loopg [8] 5 (fun gg x wr=>∃k:Nat,x=.int .i64 (k:Nat)∧k≤3∧Hid ((1≤k→ck≠6)∧(2≤k→ck≠5)∧(3≤k→ck≠4))∧Hid (Below w.heap.size w wr)∧4-k<gg)
 case atStart=>exact⟨0,rfl,by omega,qaa ⟨fun h=>by omega,fun h=>by omega,fun h=>by omega⟩,X2,by omega⟩
 case round=>
  obtain⟨k,rfl,hk,HN,XR,hg⟩:=hrel;have HG:=qaa hg;clear hg;rcases (by omega:k=0∨k=1∨k=2∨k=3) with rfl|rfl|rfl|rfl
  ·clear hk
   have ix:=qtd;by_cases he:ck=6
   ·subst he
    go_wp2;go_ret;exact⟨rfl,al XR.out _⟩
   ·have hb:((6:Int)==ck)=false:=by simpa using fun h=>he h.symm
    have HE:=qaa he;clear he;go_wp2;go_roundg 4
    case measure=>have:=HG.out;omega
    case rel=>exact⟨1,by first|rfl|go_num,by omega,qaa ⟨fun _=>HE.out,fun h=>by omega,fun h=>by omega⟩,(by first|exact al XR.out _|exact qaa (al XR.out _)),by omega⟩
  ·clear hk
   have ix:=qte;by_cases he:ck=5
   ·subst he
    go_wp2;go_ret;exact⟨rfl,al XR.out _⟩
   ·have hb:((5:Int)==ck)=false:=by simpa using fun h=>he h.symm
    have HE:=qaa he;clear he;go_wp2;go_roundg 3
    case measure=>have:=HG.out;omega
    case rel=>exact⟨2,by first|rfl|go_num,by omega,qaa ⟨fun _=>HN.out.1 (by omega),fun h=>HE.out,fun h=>by omega⟩,(by first|exact al XR.out _|exact qaa (al XR.out _)),by omega⟩
  ·clear hk
   have ix:=qtf;by_cases he:ck=4
   ·subst he
    go_wp2;go_ret;exact⟨rfl,al XR.out _⟩
   ·have hb:((4:Int)==ck)=false:=by simpa using fun h=>he h.symm
    have HE:=qaa he;clear he;go_wp2;go_roundg 2
    case measure=>have:=HG.out;omega
    case rel=>exact⟨3,by first|rfl|go_num,by omega,qaa ⟨fun _=>HN.out.1 (by omega),fun _=>HN.out.2.1 (by omega),fun _=>HE.out⟩,(by first|exact al XR.out _|exact qaa (al XR.out _)),by omega⟩
  ·clear hk
   have HR:Hid (qsp ck=3):=by
    unfold Hid qsp;rw[if_neg (HN.out.1 (by omega)),if_neg (HN.out.2.1 (by omega)),if_neg (HN.out.2.2 (by omega))]
   go_wp2;go_ret;exact⟨by rw[HR.out];rfl,XR.out⟩
def NoM (c:CT):Prop:=(c.k=1∨c.k=2)∧c.nm=[]∧c.tx=[]∧c.pre=[]∧c.sp=[]∧c.ns=[]∧c.kids=[]
 ∨c.k=3∧c.tx=[]∧c.pre=[]∧c.sp=[]∧c.ns=[]∧c.kids=[]
 ∨(c.k=4∨c.k=5∨c.k=6)∧c.nm=[]∧c.tx=[]∧c.pre=[]∧c.sp=[]∧c.ns=[]
 ∨c.k=8∧c.nm=[]∧c.tx=[]∧c.pre=[]∧c.ns=[]∧c.kids=[]
theorem qd4 {w:World} {base:Nat} {c:CT} {vs:List Value} {bs:List Nat} (hc:qaj w base c vs bs) (hn:NoM c):Calls Tryz.prog 137 #[.agg vs.toArray] w fun e w'=>e=.returned (.bool false)∧Below w.heap.size w w':=by
 obtain⟨a3,c3,a4,c4,a5,c5,a6,c6,rfl⟩:=hc.eight;clear hc;cases c with
 |mk k nm tx pre sp ns kids p=>
 unfold NoM at hn;simp only[CT.k,CT.nm,CT.tx,CT.pre,CT.sp,CT.ns,CT.kids,CT.p] at hn ⊢;have hb:∀(o:Obj),Below w.heap.size w (w.alloc o):=fun o=>al Yj o
 rcases hn with⟨rfl|rfl,rfl,rfl,rfl,rfl,rfl,rfl⟩|⟨rfl,rfl,rfl,rfl,rfl,rfl⟩|⟨rfl|rfl|rfl,rfl,rfl,rfl,rfl,rfl⟩|⟨rfl,rfl,rfl,rfl,rfl,rfl⟩
 ·have HB:=qaa (Yh w (.cells #[.int .i64 1,.string ⟨#[]⟩,.string ⟨#[]⟩,.slice a3 0 c3,.slice a4 0 c4,.slice a5 0 c5,.slice a6 0 c6,.int .i64 p] 60))
  have XW:=qaa (hb (.cells #[.int .i64 1,.string ⟨#[]⟩,.string ⟨#[]⟩,.slice a3 0 c3,.slice a4 0 c4,.slice a5 0 c5,.slice a6 0 c6,.int .i64 p] 60));obtain⟨P,hP⟩:∃P,P=w.heap.size:=⟨_,rfl⟩;go_enter Tryz.func137,Tryz.ntmps137;go_upto_region 1 with fail
  rw[←hP] at HB ⊢;have Dj:Hid (w.heap.size≤P):=by unfold Hid;omega
  clear hP hb
  try simp only[List.length_nil] at HB XW
  generalize w.alloc (.cells #[.int .i64 1,.string ⟨#[]⟩,.string ⟨#[]⟩,.slice a3 0 c3,.slice a4 0 c4,.slice a5 0 c5,.slice a6 0 c6,.int .i64 p] 60)=W at *;obtain⟨q0,q1,q2,q3,q4,q5,q6,q7⟩:=ld8 HB.out;go_wp2;go_ret;exact⟨rfl,XW.out⟩
 ·have HB:=qaa (Yh w (.cells #[.int .i64 2,.string ⟨#[]⟩,.string ⟨#[]⟩,.slice a3 0 c3,.slice a4 0 c4,.slice a5 0 c5,.slice a6 0 c6,.int .i64 p] 60))
  have XW:=qaa (hb (.cells #[.int .i64 2,.string ⟨#[]⟩,.string ⟨#[]⟩,.slice a3 0 c3,.slice a4 0 c4,.slice a5 0 c5,.slice a6 0 c6,.int .i64 p] 60));obtain⟨P,hP⟩:∃P,P=w.heap.size:=⟨_,rfl⟩;go_enter Tryz.func137,Tryz.ntmps137;go_upto_region 1 with fail
  rw[←hP] at HB ⊢;have Dj:Hid (w.heap.size≤P):=by unfold Hid;omega
  clear hP hb
  try simp only[List.length_nil] at HB XW
  generalize w.alloc (.cells #[.int .i64 2,.string ⟨#[]⟩,.string ⟨#[]⟩,.slice a3 0 c3,.slice a4 0 c4,.slice a5 0 c5,.slice a6 0 c6,.int .i64 p] 60)=W at *;obtain⟨q0,q1,q2,q3,q4,q5,q6,q7⟩:=ld8 HB.out;go_wp2;go_ret;exact⟨rfl,XW.out⟩
 ·have HB:=qaa (Yh w (.cells #[.int .i64 3,.string ⟨nm.toArray⟩,.string ⟨#[]⟩,.slice a3 0 c3,.slice a4 0 c4,.slice a5 0 c5,.slice a6 0 c6,.int .i64 p] 60))
  have XW:=qaa (hb (.cells #[.int .i64 3,.string ⟨nm.toArray⟩,.string ⟨#[]⟩,.slice a3 0 c3,.slice a4 0 c4,.slice a5 0 c5,.slice a6 0 c6,.int .i64 p] 60));obtain⟨P,hP⟩:∃P,P=w.heap.size:=⟨_,rfl⟩;go_enter Tryz.func137,Tryz.ntmps137;go_upto_region 1 with fail
  rw[←hP] at HB ⊢;have Dj:Hid (w.heap.size≤P):=by unfold Hid;omega
  clear hP hb
  try simp only[List.length_nil] at HB XW
  generalize w.alloc (.cells #[.int .i64 3,.string ⟨nm.toArray⟩,.string ⟨#[]⟩,.slice a3 0 c3,.slice a4 0 c4,.slice a5 0 c5,.slice a6 0 c6,.int .i64 p] 60)=W at *;obtain⟨q0,q1,q2,q3,q4,q5,q6,q7⟩:=ld8 HB.out;have f1:=Yf W P 1 _ _ HB.out;go_upto_region 19 with fail
  have HB2:Hid ((W.setCell ⟨P,1,none⟩ (.string ⟨#[]⟩)).heap[P]? =some (.cells #[.int .i64 3,.string ⟨#[]⟩,.string ⟨#[]⟩,.slice a3 0 c3,.slice a4 0 c4,.slice a5 0 c5,.slice a6 0 c6,.int .i64 p] 60 (0,0))):=by
   have:=qab HB.out 1 (.string ⟨#[]⟩);simpa [Hid] using this
  have X2:=qaa (XW.out.setCell (p:=⟨P,1,none⟩) Dj.out (.string ⟨#[]⟩));clear q0 q1 q2 q3 q4 q5 q6 q7 f1 HB XW;generalize W.setCell ⟨P,1,none⟩ (.string ⟨#[]⟩)=W2 at *;obtain⟨q0,q1,q2,q3,q4,q5,q6,q7⟩:=ld8 HB2.out;go_wp2;go_ret;exact⟨rfl,X2.out⟩
 ·have HB:=qaa (Yh w (.cells #[.int .i64 4,.string ⟨#[]⟩,.string ⟨#[]⟩,.slice a3 0 c3,.slice a4 0 c4,.slice a5 0 c5,.slice a6 kids.length c6,.int .i64 p] 60))
  have XW:=qaa (hb (.cells #[.int .i64 4,.string ⟨#[]⟩,.string ⟨#[]⟩,.slice a3 0 c3,.slice a4 0 c4,.slice a5 0 c5,.slice a6 kids.length c6,.int .i64 p] 60));obtain⟨P,hP⟩:∃P,P=w.heap.size:=⟨_,rfl⟩;go_enter Tryz.func137,Tryz.ntmps137;go_upto_region 1 with fail
  rw[←hP] at HB ⊢;have Dj:Hid (w.heap.size≤P):=by unfold Hid;omega
  clear hP hb
  try simp only[List.length_nil] at HB XW
  generalize w.alloc (.cells #[.int .i64 4,.string ⟨#[]⟩,.string ⟨#[]⟩,.slice a3 0 c3,.slice a4 0 c4,.slice a5 0 c5,.slice a6 kids.length c6,.int .i64 p] 60)=W at *;obtain⟨q0,q1,q2,q3,q4,q5,q6,q7⟩:=ld8 HB.out;have f1:=Yf W P 6 _ _ HB.out;go_upto_region 19 with fail
  have HB2:Hid ((W.setCell ⟨P,6,none⟩ (.slice none 0 0)).heap[P]? =some (.cells #[.int .i64 4,.string ⟨#[]⟩,.string ⟨#[]⟩,.slice a3 0 c3,.slice a4 0 c4,.slice a5 0 c5,.slice none 0 0,.int .i64 p] 60 (0,0))):=by
   have:=qab HB.out 6 (.slice none 0 0);simpa [Hid] using this
  have X2:=qaa (XW.out.setCell (p:=⟨P,6,none⟩) Dj.out (.slice none 0 0));clear q0 q1 q2 q3 q4 q5 q6 q7 f1 HB XW;generalize W.setCell ⟨P,6,none⟩ (.slice none 0 0)=W2 at *;obtain⟨q0,q1,q2,q3,q4,q5,q6,q7⟩:=ld8 HB2.out;go_wp2;go_ret;exact⟨rfl,X2.out⟩
 ·have HB:=qaa (Yh w (.cells #[.int .i64 5,.string ⟨#[]⟩,.string ⟨#[]⟩,.slice a3 0 c3,.slice a4 0 c4,.slice a5 0 c5,.slice a6 kids.length c6,.int .i64 p] 60))
  have XW:=qaa (hb (.cells #[.int .i64 5,.string ⟨#[]⟩,.string ⟨#[]⟩,.slice a3 0 c3,.slice a4 0 c4,.slice a5 0 c5,.slice a6 kids.length c6,.int .i64 p] 60));obtain⟨P,hP⟩:∃P,P=w.heap.size:=⟨_,rfl⟩;go_enter Tryz.func137,Tryz.ntmps137;go_upto_region 1 with fail
  rw[←hP] at HB ⊢;have Dj:Hid (w.heap.size≤P):=by unfold Hid;omega
  clear hP hb
  try simp only[List.length_nil] at HB XW
  generalize w.alloc (.cells #[.int .i64 5,.string ⟨#[]⟩,.string ⟨#[]⟩,.slice a3 0 c3,.slice a4 0 c4,.slice a5 0 c5,.slice a6 kids.length c6,.int .i64 p] 60)=W at *;obtain⟨q0,q1,q2,q3,q4,q5,q6,q7⟩:=ld8 HB.out;have f1:=Yf W P 6 _ _ HB.out;go_upto_region 19 with fail
  have HB2:Hid ((W.setCell ⟨P,6,none⟩ (.slice none 0 0)).heap[P]? =some (.cells #[.int .i64 5,.string ⟨#[]⟩,.string ⟨#[]⟩,.slice a3 0 c3,.slice a4 0 c4,.slice a5 0 c5,.slice none 0 0,.int .i64 p] 60 (0,0))):=by
   have:=qab HB.out 6 (.slice none 0 0);simpa [Hid] using this
  have X2:=qaa (XW.out.setCell (p:=⟨P,6,none⟩) Dj.out (.slice none 0 0));clear q0 q1 q2 q3 q4 q5 q6 q7 f1 HB XW;generalize W.setCell ⟨P,6,none⟩ (.slice none 0 0)=W2 at *;obtain⟨q0,q1,q2,q3,q4,q5,q6,q7⟩:=ld8 HB2.out;go_wp2;go_ret;exact⟨rfl,X2.out⟩
 ·have HB:=qaa (Yh w (.cells #[.int .i64 6,.string ⟨#[]⟩,.string ⟨#[]⟩,.slice a3 0 c3,.slice a4 0 c4,.slice a5 0 c5,.slice a6 kids.length c6,.int .i64 p] 60))
  have XW:=qaa (hb (.cells #[.int .i64 6,.string ⟨#[]⟩,.string ⟨#[]⟩,.slice a3 0 c3,.slice a4 0 c4,.slice a5 0 c5,.slice a6 kids.length c6,.int .i64 p] 60));obtain⟨P,hP⟩:∃P,P=w.heap.size:=⟨_,rfl⟩;go_enter Tryz.func137,Tryz.ntmps137;go_upto_region 1 with fail
  rw[←hP] at HB ⊢;have Dj:Hid (w.heap.size≤P):=by unfold Hid;omega
  clear hP hb
  try simp only[List.length_nil] at HB XW
  generalize w.alloc (.cells #[.int .i64 6,.string ⟨#[]⟩,.string ⟨#[]⟩,.slice a3 0 c3,.slice a4 0 c4,.slice a5 0 c5,.slice a6 kids.length c6,.int .i64 p] 60)=W at *;obtain⟨q0,q1,q2,q3,q4,q5,q6,q7⟩:=ld8 HB.out;have f1:=Yf W P 6 _ _ HB.out;go_upto_region 19 with fail
  have HB2:Hid ((W.setCell ⟨P,6,none⟩ (.slice none 0 0)).heap[P]? =some (.cells #[.int .i64 6,.string ⟨#[]⟩,.string ⟨#[]⟩,.slice a3 0 c3,.slice a4 0 c4,.slice a5 0 c5,.slice none 0 0,.int .i64 p] 60 (0,0))):=by
   have:=qab HB.out 6 (.slice none 0 0);simpa [Hid] using this
  have X2:=qaa (XW.out.setCell (p:=⟨P,6,none⟩) Dj.out (.slice none 0 0));clear q0 q1 q2 q3 q4 q5 q6 q7 f1 HB XW;generalize W.setCell ⟨P,6,none⟩ (.slice none 0 0)=W2 at *;obtain⟨q0,q1,q2,q3,q4,q5,q6,q7⟩:=ld8 HB2.out;go_wp2;go_ret;exact⟨rfl,X2.out⟩
 ·have HB:=qaa (Yh w (.cells #[.int .i64 8,.string ⟨#[]⟩,.string ⟨#[]⟩,.slice a3 0 c3,.slice a4 sp.length c4,.slice a5 0 c5,.slice a6 0 c6,.int .i64 p] 60))
  have XW:=qaa (hb (.cells #[.int .i64 8,.string ⟨#[]⟩,.string ⟨#[]⟩,.slice a3 0 c3,.slice a4 sp.length c4,.slice a5 0 c5,.slice a6 0 c6,.int .i64 p] 60));obtain⟨P,hP⟩:∃P,P=w.heap.size:=⟨_,rfl⟩;go_enter Tryz.func137,Tryz.ntmps137;go_upto_region 1 with fail
  rw[←hP] at HB ⊢;have Dj:Hid (w.heap.size≤P):=by unfold Hid;omega
  clear hP hb
  try simp only[List.length_nil] at HB XW
  generalize w.alloc (.cells #[.int .i64 8,.string ⟨#[]⟩,.string ⟨#[]⟩,.slice a3 0 c3,.slice a4 sp.length c4,.slice a5 0 c5,.slice a6 0 c6,.int .i64 p] 60)=W at *;obtain⟨q0,q1,q2,q3,q4,q5,q6,q7⟩:=ld8 HB.out;have f1:=Yf W P 4 _ _ HB.out;go_upto_region 19 with fail
  have HB2:Hid ((W.setCell ⟨P,4,none⟩ (.slice none 0 0)).heap[P]? =some (.cells #[.int .i64 8,.string ⟨#[]⟩,.string ⟨#[]⟩,.slice a3 0 c3,.slice none 0 0,.slice a5 0 c5,.slice a6 0 c6,.int .i64 p] 60 (0,0))):=by
   have:=qab HB.out 4 (.slice none 0 0);simpa [Hid] using this
  have X2:=qaa (XW.out.setCell (p:=⟨P,4,none⟩) Dj.out (.slice none 0 0));clear q0 q1 q2 q3 q4 q5 q6 q7 f1 HB XW;generalize W.setCell ⟨P,4,none⟩ (.slice none 0 0)=W2 at *;obtain⟨q0,q1,q2,q3,q4,q5,q6,q7⟩:=ld8 HB2.out;go_wp2;go_ret;exact⟨rfl,X2.out⟩
def qra (part:CT→WS→Option WS) (word:By):List CT→Nat→WS→Option WS
 |[],_,s=>some s
 |d::l,i,s=>(if i=0 then some s else qh6 word s).bind fun a=>(part d a).bind fun b=>qra part word l (i+1) b
def qsb (part:CT→WS→Option WS) (word:By) (ks:List CT) (s:WS):Option WS:=if 2≤ks.length∧ks.length≤32 then qra part word ks 0 s else none
def qtg (part:CT→WS→Option WS) (ks:List CT) (s:WS):Option WS:=match ks with
 |[d]=>(qh6 qg2 s).bind fun a=>part d a
 |_=>none
def qec:Nat→CT→Nat→WS→Option WS
 |0,_,_,_=>none
 |f+1,c,place,s=>(if qsp c.k<place then qe4 [40] s else some s).bind fun a=>
  (if c.k=4 then qtg (fun d=>qec f d 2) c.kids a
   else if c.k=5 then qsb (fun d=>qec f d 2) qeq c.kids a
   else if c.k=6 then qsb (fun d=>qec f d 1) wOr c.kids a
   else if c.k=3 then qsl c.nm a
   else qsa c a).bind fun b=>if qsp c.k<place then qe4 [41] b else some b
def Smp:Nat→CT→Prop
 |0,_=>True
 |f+1,c=>NoM c∧(∀z∈c.sp,Dg3 z.1∧Dg3 z.2)∧∀d∈c.kids,Smp f d
def qrb (f:Nat):Prop:=∀(c:CT) (place deep:Nat) (s x:WS) (w:World) (base wp b0:Nat) (vs:List Value) (bs:List Nat),place≤3→deep+f=17→Smp f c→WrA w base wp s.1 s.2→qaj w b0 c vs bs→qec f c place s=some x→Calls Tryz.prog 106 #[.pointer (some ⟨wp,0,none⟩),.agg vs.toArray,.int .i64 (place:Nat),.int .i64 (deep:Nat)] w (qbz base wp w x)
theorem qsq {f:Nat} (hC:qrb f) {w:World} {base wp b0 deep:Nat} {c:CT} {vs:List Value} {bs:List Nat} {s x:WS} (hd:deep+f=16) (hs:∀d∈c.kids,Smp f d) (h:WrA w base wp s.1 s.2) (hc:qaj w b0 c vs bs) (hx:qtg (fun d=>qec f d 2) c.kids s=some x):
 Calls Tryz.prog 139 #[.pointer (some ⟨wp,0,none⟩),.agg vs.toArray,.agg #[.string ⟨#[110,111,116]⟩,.int .i64 4,.int .i64 2],.int .i64 (deep:Nat)] w (qbz base wp w x):=by
 obtain⟨d,hks,a,ha,hx⟩:∃d,c.kids=[d]∧∃a,qh6 qg2 s=some a∧qec f d 2 a=some x:=by
  unfold qtg at hx;split at hx
  ·rename_i d e
   obtain⟨a,ha,hx⟩:=Option.bind_eq_some_iff.1 hx;exact⟨d,e,a,ha,hx⟩
  ·cases hx
 have hsd:=hs d (by rw[hks];exact List.mem_singleton.2 rfl);have hc0:=hc;obtain⟨a3,c3,a4,c4,a5,c5,a6,c6,rfl⟩:=hc.eight;obtain⟨cs,ks,hrow,hkd,_⟩:=hc.kidsRow;rw[hks] at hkd hrow ⊢;obtain⟨us,bs2,Dl,hcell,_⟩:=hkd.get 0 (by simp);obtain⟨d3,e3,d4,e4,d5,e5,d6,e6,rfl⟩:=Dl.eight;obtain⟨ao,cp,hv,BS⟩:=qad hrow;obtain⟨g,hg⟩:=BS (by simp);injection hv with hv1 hv2 hv3
 subst hv1;subst hg;clear hv2 hv3 BS;have Ej:Hid (qaj w b0 d [.int .i64 d.k,.string ⟨d.nm.toArray⟩,.string ⟨d.tx.toArray⟩,.slice d3 d.pre.length e3,.slice d4 d.sp.length e4,.slice d5 d.ns.length e5,.slice d6 d.kids.length e6,.int .i64 d.p] bs2):=Dl;have HRW:=qaa hrow;have Bu:=qaa hcell;simp only[List.length_singleton];obtain⟨W,hW⟩:∃W,W=(w.alloc (.cells #[.int .i64 c.k,.string ⟨c.nm.toArray⟩,.string ⟨c.tx.toArray⟩,.slice a3 c.pre.length c3,.slice a4 c.sp.length c4,.slice a5 c.ns.length c5,.slice (some ⟨g,0,none⟩) 1 c6,.int .i64 c.p] 60)).alloc (.cells #[.string ⟨#[110,111,116]⟩,.int .i64 4,.int .i64 2] 151):=⟨_,rfl⟩;obtain⟨b1,hb1⟩:∃b,b=w.heap.size:=⟨_,rfl⟩;obtain⟨b2,hb2⟩:∃b,b=w.heap.size+1:=⟨_,rfl⟩;have XW:=qaa (show Below w.heap.size w W by rw[hW];exact al (al Yj _) _);have B1:=qaa (show W.heap[b1]? =some (.cells #[.int .i64 c.k,.string ⟨c.nm.toArray⟩,.string ⟨c.tx.toArray⟩,.slice a3 c.pre.length c3,.slice a4 c.sp.length c4,.slice a5 c.ns.length c5,.slice (some ⟨g,0,none⟩) 1 c6,.int .i64 c.p] 60 (0,0)) by
  rw[hW,hb1];exact(heap_alloc_old _ _ (by simp)).trans (Yh w _))
 have B2:=qaa (show W.heap[b2]? =some (.cells #[.string ⟨#[110,111,116]⟩,.int .i64 4,.int .i64 2] 151 (0,0)) by
  rw[hW,hb2,show w.heap.size+1=(w.alloc (.cells #[.int .i64 c.k,.string ⟨c.nm.toArray⟩,.string ⟨c.tx.toArray⟩,.slice a3 c.pre.length c3,.slice a4 c.sp.length c4,.slice a5 c.ns.length c5,.slice (some ⟨g,0,none⟩) 1 c6,.int .i64 c.p] 60)).heap.size by simp];exact Yh _ _)
 have RW:=qaa (h.below XW.out);have HM:=qaa qbn;have HW:=qaa (qdi RW.out ha);unfold qg2 at HW;have BU:=qaa (fun V (r:WrA V base wp a.1 a.2) (k:qaj V b0 d [.int .i64 d.k,.string ⟨d.nm.toArray⟩,.string ⟨d.tx.toArray⟩,.slice d3 d.pre.length e3,.slice d4 d.sp.length e4,.slice d5 d.ns.length e5,.slice d6 d.kids.length e6,.int .i64 d.p] bs2)=>hC d 2 (deep+1) a x V base wp b0 _ bs2 (by omega) (by omega) hsd r k hx);have p6:W.cell? ⟨b1,6,none⟩=some (.slice (some ⟨g,0,none⟩) 1 c6):=by rw[Ye _ _ _ _ _ _ B1.out];rfl
 have p0:W.cell? ⟨b2,0,none⟩=some (.string ⟨#[110,111,116]⟩):=by rw[Ye _ _ _ _ _ _ B2.out];rfl
 have EO:=qaa hd;clear hx ha hc hs h hks hsd Dl hrow hcell hkd hd hc0 hC;go_enter Tryz.func139,Tryz.ntmps139;go_upto_region 1 with fail
 rw[←hb2,←hW,←hb1];clear hW hb1 hb2;go_upto_region 3 with(first|(go_at_call 65;refine(HM.out _).mono ?_;rintro e w2 ⟨rfl,hw⟩;have hw2:=hw.symm;clear hw;subst hw2)|(go_at_call 103;refine HW.out.mono ?_;rintro e w3 ⟨rfl,r3,x3⟩;have R3:=qaa r3;have X3:=qaa x3;clear r3 x3))
 clear p6 p0 HW;have Dc:=qaa (qaj.below Ej.out XW.out);have Dv:=qaa (Dc.out.kpo RW.out X3.out);have HR3:=qaa (X3.out.ownS (own_below HRW.out XW.out) (by decide) RW.out);have A1:=qaa (X3.out.box B1.out (by decide) (RW.out.ne B1.out (by decide)));have A2:=qaa (X3.out.box B2.out (by decide) (RW.out.ne B2.out (by decide)));have X4:=qaa ((KpO.of_below (base:=base) (wp:=wp) XW.out).trans X3.out);clear Dc HRW B1 B2 X3 RW XW Ej;have XD:Hid (Below w3.heap.size w3 w3.drew):=Yj.drew;have HQ:Hid (∀V,Below w3.heap.size w3 V→V.cell? ⟨b1,6,none⟩=some (.slice (some ⟨g,0,none⟩) 1 c6)∧V.cell? ⟨b2,2,none⟩=some (.int .i64 2)∧V.cell? ⟨g,0,none⟩=some (.int .i64 d.k)∧V.cell? ⟨g,1,none⟩=some (.string ⟨d.nm.toArray⟩)∧V.cell? ⟨g,2,none⟩=some (.string ⟨d.tx.toArray⟩)∧V.cell? ⟨g,3,none⟩=some (.slice d3 d.pre.length e3)∧V.cell? ⟨g,4,none⟩=some (.slice d4 d.sp.length e4)∧V.cell? ⟨g,5,none⟩=some (.slice d5 d.ns.length e5)∧V.cell? ⟨g,6,none⟩=some (.slice d6 d.kids.length e6)∧V.cell? ⟨g,7,none⟩=some (.int .i64 d.p)):=fun V y=>by
  have hr:=own_below HR3.out y;have hcl:∀r,r<8→V.cell? ⟨g,r,none⟩=[.int .i64 d.k,.string ⟨d.nm.toArray⟩,.string ⟨d.tx.toArray⟩,.slice d3 d.pre.length e3,.slice d4 d.sp.length e4,.slice d5 d.ns.length e5,.slice d6 d.kids.length e6,.int .i64 d.p][r]? :=fun r hr'=>by
   have:=Bu.out r hr';rw[Nat.zero_mul,Nat.zero_add] at this;rw[World.ownsRow.cellAt hr r (by simp;omega),this];rfl
  refine⟨?_,?_,hcl 0 (by omega),hcl 1 (by omega),hcl 2 (by omega),hcl 3 (by omega),hcl 4 (by omega),hcl 5 (by omega),hcl 6 (by omega),hcl 7 (by omega)⟩
  ·rw[Ye _ _ _ _ _ _ ((y.block b1 (Yd A1.out)).trans A1.out)];rfl
  ·rw[Ye _ _ _ _ _ _ ((y.block b2 (Yd A2.out)).trans A2.out)];rfl
 have Bb:=XD;have Ji:=qaa (fun V (y:Below w3.heap.size w3 V)=>BU.out V (R3.out.below y) (Dv.out.below y));clear HR3 Bu A1 A2 Dv BU;have hde:((deep+1:Nat):Int)=(deep:Int)+1:=by omega
 simp only[hde] at Ji;clear hde;generalize d.k=dk at *;generalize d.nm=dnm at *;generalize d.tx=dtx at *;generalize d.p=dp at *;generalize d.pre.length=npre at *;generalize d.sp.length=nsp at *;generalize d.ns.length=nns at *;generalize d.kids.length=nkids at *;have fw:IntKind.i64.wrap ((deep:Int)+1)=((deep+1:Nat):Int):=by have:=EO.out;simp[IntKind.wrap,IntKind.bits,IntKind.signed];omega
 refine qam (S:=fun V=>Below w3.heap.size w3 V) 9 (by kernel_rfl) ?_;refine qac.tk 0 rfl 17 Bb.out (fun a b=>by obtain⟨_,_,_,_,_,_,_,_,_,q10⟩:=HQ.out a b;go_simp;first|done|rfl) ?_
 try simp only[Act.put,Ya,Yb,Yc]
 refine qac.tk 1 rfl 18 Bb.out (fun a b=>by obtain⟨_,_,_,_,_,_,_,_,_,q10⟩:=HQ.out a b;go_simp;first|done|rfl) ?_
 try simp only[Act.put,Ya,Yb,Yc]
 refine qac.tk 2 rfl 19 Bb.out (fun a b=>by obtain⟨_,_,_,_,_,_,_,_,_,q10⟩:=HQ.out a b;go_simp;first|done|rfl) ?_
 try simp only[Act.put,Ya,Yb,Yc]
 refine qac.tk 3 rfl 20 Bb.out (fun a b=>by obtain⟨_,_,_,_,_,_,_,_,_,q10⟩:=HQ.out a b;go_simp;first|done|rfl) ?_
 try simp only[Act.put,Ya,Yb,Yc]
 refine qac.tk 4 rfl 21 Bb.out (fun a b=>by obtain⟨_,_,_,_,_,_,_,_,_,q10⟩:=HQ.out a b;go_simp;first|done|rfl) ?_
 try simp only[Act.put,Ya,Yb,Yc]
 refine qac.tk 5 rfl 22 Bb.out (fun a b=>by obtain⟨_,_,_,_,_,_,_,_,_,q10⟩:=HQ.out a b;go_simp;first|done|rfl) ?_
 try simp only[Act.put,Ya,Yb,Yc]
 refine qac.tk 6 rfl 23 Bb.out (fun a b=>by obtain⟨_,_,_,_,_,_,_,_,_,q10⟩:=HQ.out a b;go_simp;first|done|rfl) ?_
 try simp only[Act.put,Ya,Yb,Yc]
 refine qac.tk 7 rfl 24 Bb.out (fun a b=>by obtain⟨_,_,_,_,_,_,_,_,_,q10⟩:=HQ.out a b;go_simp;first|done|rfl) ?_
 try simp only[Act.put,Ya,Yb,Yc]
 refine qac.tk 8 rfl 25 Bb.out (fun a b=>by obtain⟨_,_,_,_,_,_,_,_,_,q10⟩:=HQ.out a b;go_simp;first|done|rfl) ?_
 try simp only[Act.put,Ya,Yb,Yc]
 refine qac.lst rfl fun K hK=>?_
 go_simp;refine(Ji.out _ XD.out).mono ?_;rintro e w4 ⟨rfl,r4,x4⟩;refine hK _ _ ?_;have R4:=qaa r4;have X5:=qaa x4;clear hK K r4 x4;go_wp2;go_end0;exact⟨rfl,R4.out,X4.out.trans ((KpO.of_below XD.out).trans X5.out)⟩
theorem qm9 {f:Nat} (hC:qrb f) {w:World} {base wp b0 deep parts:Nat} {word:By} {kd:Int} {c:CT} {vs:List Value} {bs:List Nat} {s x:WS} (Og:parts≤3) (hd:deep+f=16) (hs:∀d∈c.kids,Smp f d) (h:WrA w base wp s.1 s.2) (hc:qaj w b0 c vs bs) (hx:qsb (fun d=>qec f d parts) word c.kids s=some x):
 Calls Tryz.prog 140 #[.pointer (some ⟨wp,0,none⟩),.agg vs.toArray,.agg #[.string ⟨word.toArray⟩,.int .i64 kd,.int .i64 (parts:Nat)],.int .i64 (deep:Nat)] w (qbz base wp w x):=by
 unfold qsb at hx;have hn:2≤c.kids.length∧c.kids.length≤32:=Decidable.byContradiction fun h=>by rw[if_neg h] at hx;cases hx
 rw[if_pos hn] at hx;have hc0:=hc;obtain⟨a3,c3,a4,c4,a5,c5,a6,c6,rfl⟩:=hc.eight;obtain⟨cs,ks,hrow,hkd,_⟩:=hc.kidsRow;obtain⟨ao,cp,hv,BS⟩:=qad hrow;obtain⟨g,hg⟩:=BS (by omega);injection hv with hv1 hv2 hv3
 subst hv1;subst hg;clear hv2 hv3 BS;have HRW:=qaa hrow;have EP:=qaa hkd;have Jj:=qaa hs;obtain⟨W,hW⟩:∃W,W=(w.alloc (.cells #[.int .i64 c.k,.string ⟨c.nm.toArray⟩,.string ⟨c.tx.toArray⟩,.slice a3 c.pre.length c3,.slice a4 c.sp.length c4,.slice a5 c.ns.length c5,.slice (some ⟨g,0,none⟩) c.kids.length c6,.int .i64 c.p] 60)).alloc (.cells #[.string ⟨word.toArray⟩,.int .i64 kd,.int .i64 (parts:Nat)] 151):=⟨_,rfl⟩;obtain⟨b1,hb1⟩:∃b,b=w.heap.size:=⟨_,rfl⟩;obtain⟨b2,hb2⟩:∃b,b=w.heap.size+1:=⟨_,rfl⟩;have XW:=qaa (show Below w.heap.size w W by rw[hW];exact al (al Yj _) _);have B1:=qaa (show W.heap[b1]? =some (.cells #[.int .i64 c.k,.string ⟨c.nm.toArray⟩,.string ⟨c.tx.toArray⟩,.slice a3 c.pre.length c3,.slice a4 c.sp.length c4,.slice a5 c.ns.length c5,.slice (some ⟨g,0,none⟩) c.kids.length c6,.int .i64 c.p] 60 (0,0)) by
  rw[hW,hb1];exact(heap_alloc_old _ _ (by simp)).trans (Yh w _))
 have B2:=qaa (show W.heap[b2]? =some (.cells #[.string ⟨word.toArray⟩,.int .i64 kd,.int .i64 (parts:Nat)] 151 (0,0)) by
  rw[hW,hb2,show w.heap.size+1=(w.alloc (.cells #[.int .i64 c.k,.string ⟨c.nm.toArray⟩,.string ⟨c.tx.toArray⟩,.slice a3 c.pre.length c3,.slice a4 c.sp.length c4,.slice a5 c.ns.length c5,.slice (some ⟨g,0,none⟩) c.kids.length c6,.int .i64 c.p] 60)).heap.size by simp];exact Yh _ _)
 have RW:=qaa (h.below XW.out);have MN:=qaa (own_below HRW.out XW.out);have JS:=qaa (qao.below EP.out XW.out);have HM:=qaa qbn;have J2:=qaa (fun V (y a:WS) (r:WrA V base wp y.1 y.2) (e:qh6 word y=some a)=>qdi r e);have BU:=qaa (fun(d:CT) (hd':d∈c.kids) (V:World) (us:List Value) (bs2:List Nat) (y a:WS) (r:WrA V base wp y.1 y.2) (k:qaj V b0 d us bs2) (e:qec f d parts y=some a)=>hC d parts (deep+1) y a V base wp b0 us bs2 Og (by omega) (Jj.out d hd') r k e);have hde:((deep+1:Nat):Int)=(deep:Int)+1:=by omega
 simp only[hde] at BU;clear hde;have HX:=qaa hx;have HN:=qaa hn;have EO:=qaa hd;have h1:(2:Int)≤(c.kids.length:Int):=by omega
 have h2:(c.kids.length:Int)≤32:=by omega
 have p6:W.cell? ⟨b1,6,none⟩=some (.slice (some ⟨g,0,none⟩) c.kids.length c6):=by rw[Ye _ _ _ _ _ _ B1.out];rfl
 clear hx hc hs h hrow hkd hd hc0 hC hn Jj HRW EP Og;generalize c.kids=KS at *;go_enter Tryz.func140,Tryz.ntmps140;go_upto_region 1 with fail
 rw[←hb2,←hW,←hb1];clear hW hb1 hb2;go_upto_region 2 with(go_at_call 65;refine(HM.out _).mono ?_;rintro e w2 ⟨rfl,hw⟩;have hw2:=hw.symm;clear hw;subst hw2)
 go_wp2;clear p6 h1 h2;go_loopg [8,9,24] (KS.length+1) (fun gg x8 x9 x24 wr=>∃(k:Nat) (y:WS),x24=.int .i64 (k:Nat)∧k≤KS.length∧Hid (qra (fun d=>qec f d parts) word (KS.drop k) k y=some x)∧Hid (WrA wr base wp y.1 y.2)∧Hid (KpO 5 base wp W wr)∧KS.length-k<gg)
 case atStart=>exact⟨0,s,rfl,by omega,HX,RW,qaa (KpO.refl _ _),by omega⟩
 case round=>
  obtain⟨k,y,rfl,hk,HP,RR,XR,hg⟩:=hrel;have HG:=qaa hg;clear hg HX;by_cases hlt:k<KS.length
  ·have hlt':(k:Int)<(KS.length:Int):=by omega
   obtain⟨d,hdd⟩:∃d,d=KS[k]:=⟨_,rfl⟩;have Jl:Hid (d∈KS):=by
    unfold Hid;rw[hdd];exact List.getElem_mem hlt
   have HDR:=HP.out;rw[List.drop_eq_getElem_cons hlt,←hdd] at HDR;obtain⟨a1,ha1,hx1⟩:=Option.bind_eq_some_iff.1 HDR;obtain⟨y1,hb1,hx2⟩:=Option.bind_eq_some_iff.1 hx1;have J3:=qaa hx2;have HA1:=qaa ha1;have HB1:=qaa hb1;have HRR:=qaa (XR.out.ownS MN.out (by decide) RW.out);have Oh:Hid (qao wr b0 KS cs ks):=by
    refine qao.kept XR.out _ _ _ JS.out (fun j hj hf=>?_);obtain⟨cs',t,f',h1,h2,h3⟩:=qao.ty JS.out j hj;rcases hf with e|⟨_,c',f'',e⟩
    ·exact RW.out.ne h1 h3 e
    ·rw[h1] at e
     injection e with e
     injection e with _ e _
     exact h2 e
   obtain⟨us,bs2,Dl,hcell,_⟩:=Oh.out.get k hlt;rw[←hdd] at Dl;obtain⟨d3,e3,d4,e4,d5,e5,d6,e6,rfl⟩:=Dl.eight;have Ej:=qaa Dl;have HK:=qaa hlt;clear Dl HDR hx2 hx1 ha1 hb1 HP hdd hlt;have hcl:∀r,r<8→wr.cell? ⟨g,k*8+r,none⟩=[.int .i64 d.k,.string ⟨d.nm.toArray⟩,.string ⟨d.tx.toArray⟩,.slice d3 d.pre.length e3,.slice d4 d.sp.length e4,.slice d5 d.ns.length e5,.slice d6 d.kids.length e6,.int .i64 d.p][r]? :=fun r hr=>by
    rw[World.ownsRow.cellAt HRR.out (k*8+r) (by have:=HK.out;omega),hcell r hr]
   have q0:=hcl 0 (by omega);have q1:=hcl 1 (by omega);have q2:=hcl 2 (by omega);have q3:=hcl 3 (by omega);have q4:=hcl 4 (by omega);have q5:=hcl 5 (by omega);have q6:=hcl 6 (by omega);have q7:=hcl 7 (by omega);simp only[List.getElem?_cons_zero,List.getElem?_cons_succ,Nat.add_zero] at q0 q1 q2 q3 q4 q5 q6 q7;clear hcl hcell HRR Oh;have Bg:=qaa (Yh wr (.cells #[.int .i64 d.k,.string ⟨d.nm.toArray⟩,.string ⟨d.tx.toArray⟩,.slice d3 d.pre.length e3,.slice d4 d.sp.length e4,.slice d5 d.ns.length e5,.slice d6 d.kids.length e6,.int .i64 d.p] 60));have XK:Hid (Below wr.heap.size wr (wr.alloc (.cells #[.int .i64 d.k,.string ⟨d.nm.toArray⟩,.string ⟨d.tx.toArray⟩,.slice d3 d.pre.length e3,.slice d4 d.sp.length e4,.slice d5 d.ns.length e5,.slice d6 d.kids.length e6,.int .i64 d.p] 60))):=al Yj _;have Dc:=qaa (Ej.out.below XK.out);have RK:=qaa (RR.out.below XK.out);have XX:=qaa (XR.out.trans (KpO.of_below XK.out));go_upto_region 5 with fail
   clear q0 q1 q2 q3 q4 q5 q6 q7 Ej RR XR XK;obtain⟨P,hP⟩:∃P,P=wr.heap.size:=⟨_,rfl⟩;rw[←hP] at Bg ⊢;clear hP;generalize wr.alloc (.cells #[.int .i64 d.k,.string ⟨d.nm.toArray⟩,.string ⟨d.tx.toArray⟩,.slice d3 d.pre.length e3,.slice d4 d.sp.length e4,.slice d5 d.ns.length e5,.slice d6 d.kids.length e6,.int .i64 d.p] 60)=wk at *;have fw2:IntKind.i64.wrap ((k:Int)+1)=((k+1:Nat):Int):=by have:=HN.out;have:=HK.out;simp[IntKind.wrap,IntKind.bits,IntKind.signed];omega
   have fw:IntKind.i64.wrap ((deep:Int)+1)=(deep:Int)+1:=by have:=EO.out;simp[IntKind.wrap,IntKind.bits,IntKind.signed];omega
   by_cases h0:k=0
   ·have hgt:¬((k:Nat):Int)>0:=by omega
    have ea:y=a1:=by
     have:=HA1.out;rw[if_pos h0] at this;exact Option.some.inj this
    have HH0:=qaa h0;clear h0;subst ea;obtain⟨q0,q1,q2,q3,q4,q5,q6,q7⟩:=ld8 Bg.out;have JU:=qaa (XX.out.box B2.out (by decide) (RW.out.ne B2.out (by decide)));have u2:wk.cell? ⟨b2,2,none⟩=some (.int .i64 (parts:Nat)):=by rw[Ye _ _ _ _ _ _ JU.out];rfl
    have Ji:=qaa (BU.out d Jl.out wk _ bs2 y y1 RK.out Dc.out HB1.out);go_wp2_with (go_at_call 106;refine Ji.out.mono ?_;rintro e w3 ⟨rfl,r3,x3⟩;have R3:=qaa r3;have X3:=qaa (XX.out.trans x3);clear r3 x3);go_roundg (KS.length-(k+1)+1)
    case measure=>have:=HG.out;have:=HK.out;omega
    case rel=>exact⟨k+1,y1,by first|rfl|(rw[show wrap64 ((k:Int)+1)=((k+1:Nat):Int) from fw2]),by have:=HK.out;omega,J3,R3,X3,by omega⟩
   ·have hgt:(0:Int)<(k:Int):=by omega
    have ea:qh6 word y=some a1:=by
     have:=HA1.out;rw[if_neg h0] at this;exact this
    have Oi:=qaa (J2.out wk y a1 RK.out ea);have JU:=qaa (XX.out.box B2.out (by decide) (RW.out.ne B2.out (by decide)));have u0:wk.cell? ⟨b2,0,none⟩=some (.string ⟨word.toArray⟩):=by rw[Ye _ _ _ _ _ _ JU.out];rfl
    clear ea h0 HA1;go_upto_region 7 with(go_at_call 103;refine Oi.out.mono ?_;rintro e w2 ⟨rfl,r2,x2⟩;have R2:=qaa r2;have X2:=qaa x2;clear r2 x2)
    clear u0 Oi;have Gc:=qaa (X2.out.box Bg.out (by decide) (RK.out.ne Bg.out (by decide)));have MO:=qaa (X2.out.box JU.out (by decide) (RK.out.ne JU.out (by decide)));have BH:=qaa (Dc.out.kpo RK.out X2.out);have Da:=qaa (XX.out.trans X2.out);obtain⟨q0,q1,q2,q3,q4,q5,q6,q7⟩:=ld8 Gc.out;have u2:w2.cell? ⟨b2,2,none⟩=some (.int .i64 (parts:Nat)):=by rw[Ye _ _ _ _ _ _ MO.out];rfl
    have Ji:=qaa (BU.out d Jl.out w2 _ bs2 a1 y1 R2.out BH.out HB1.out);go_wp2_with (go_at_call 106;refine Ji.out.mono ?_;rintro e w3 ⟨rfl,r3,x3⟩;have R3:=qaa r3;have X3:=qaa (Da.out.trans x3);clear r3 x3);go_roundg (KS.length-(k+1)+1)
    case measure=>have:=HG.out;have:=HK.out;omega
    case rel=>exact⟨k+1,y1,by first|rfl|(rw[show wrap64 ((k:Int)+1)=((k+1:Nat):Int) from fw2]),by have:=HK.out;omega,J3,R3,X3,by omega⟩
  ·have hlt':¬(k:Int)<(KS.length:Int):=by omega
   have HF:=HP.out;rw[List.drop_eq_nil_of_le (by omega)] at HF;obtain rfl:y=x:=Option.some.inj HF;clear HF HP hlt;go_wp2;go_end0;exact⟨rfl,RR.out,(KpO.of_below XW.out).trans XR.out⟩
end Go.Proofs.YtlmhofjiobmodaaGreatDoor

