/-
  The document's reader of tokens: wrong, is, may, token, want, kind by their contracts. No condition.
-/
import Derived.Test.YtlmhofjiobmodaaGreatDoorP34
import Derived.Test.YtlmhofjiobmodaaGreatDoorP11
set_option maxRecDepth 100000
set_option maxHeartbeats 16000000
namespace Go.Proofs.YtlmhofjiobmodaaGreatDoor
open Go.RowKit Go.Lib
structure DpA (w:World) (base rp g cap:Nat) (Ts:List Tk) (i:Nat) (e q:Int):Prop where
 blk:w.heap[rp]? =some (.cells #[.slice (some ⟨g,0,none⟩) Ts.length cap,.int .i64 (i:Nat),.int .i64 e,.int .i64 q] 77 (0,0))
 row:w.ownsRow base 49 6 (.slice (some ⟨g,0,none⟩) Ts.length cap) Ts.length (tkC Ts)
 lt:i<Ts.length
 few:Ts.length≤1048576
 endk:(tok Ts (Ts.length-1)).k=8
theorem DpA.kept {F:Nat→Prop} {w w':World} {base rp g cap:Nat} {Ts:List Tk} {i:Nat} {e q:Int} (h:DpA w base rp g cap Ts i e q) (hk:Kept F w w') (h1:¬F rp) (h2:¬F g):DpA w' base rp g cap Ts i e q:=
 ⟨(hk.block rp (Yd h.blk) h1).trans h.blk,qai h.row hk (fun k h3 h4=>by cases h3;exact h2 h4),h.lt,h.few,h.endk⟩
theorem DpA.below {w w':World} {base rp g cap:Nat} {Ts:List Tk} {i:Nat} {e q:Int} (h:DpA w base rp g cap Ts i e q) (x:Below w.heap.size w w'):DpA w' base rp g cap Ts i e q:=
 ⟨(x.block rp (Yd h.blk)).trans h.blk,own_below h.row x,h.lt,h.few,h.endk⟩
theorem DpA.next {w:World} {base rp g cap:Nat} {Ts:List Tk} {i:Nat} {e q:Int} (h:DpA w base rp g cap Ts i e q) (hk:(tok Ts i).k≠8):i+1<Ts.length:=by
 have:=h.lt;rcases Nat.lt_or_ge (i+1) Ts.length with h1|h1
 ·exact h1
 ·have e:i=Ts.length-1:=by omega
  rw[e] at hk;exact absurd h.endk hk
theorem DpA.gl {w:World} {base rp g cap:Nat} {Ts:List Tk} {i:Nat} {e q:Int} (h:DpA w base rp g cap Ts i e q):rp<w.heap.size∧g<w.heap.size:=⟨Yd h.blk,(World.ownsRow.lt h.row g rfl).2⟩
theorem DpA.cells {w:World} {base rp g cap:Nat} {Ts:List Tk} {i:Nat} {e q:Int} (h:DpA w base rp g cap Ts i e q):w.cell? ⟨g,i*6,none⟩=some (.int .i64 (tok Ts i).k)∧w.cell? ⟨g,i*6+1,none⟩=some (.string ⟨(tok Ts i).t.toArray⟩)∧w.cell? ⟨g,i*6+2,none⟩=some (.int .i64 (tok Ts i).n)∧w.cell? ⟨g,i*6+3,none⟩=some (.int .i64 (tok Ts i).a)∧w.cell? ⟨g,i*6+4,none⟩=some (.int .i64 (tok Ts i).b)∧w.cell? ⟨g,i*6+5,none⟩=some (.int .i64 (tok Ts i).p):=by
 have hc:∀r,r<6→w.cell? ⟨g,i*6+r,none⟩=(tkV (tok Ts i)).toList[r]? :=fun r hr=>by
  have:=h.lt;rw[World.ownsRow.cellAt h.row (i*6+r) (by omega),qiz Ts i r h.lt hr]
 exact⟨hc 0 (by omega),hc 1 (by omega),hc 2 (by omega),hc 3 (by omega),hc 4 (by omega),hc 5 (by omega)⟩
theorem DpA.four {w:World} {base rp g cap:Nat} {Ts:List Tk} {i:Nat} {e q:Int} (h:DpA w base rp g cap Ts i e q):w.cell? ⟨rp,0,none⟩=some (.slice (some ⟨g,0,none⟩) Ts.length cap)∧w.cell? ⟨rp,1,none⟩=some (.int .i64 (i:Nat))∧w.cell? ⟨rp,2,none⟩=some (.int .i64 e)∧w.cell? ⟨rp,3,none⟩=some (.int .i64 q):=
 ⟨by rw[Ye _ _ _ _ _ _ h.blk];rfl,by rw[Ye _ _ _ _ _ _ h.blk];rfl,by rw[Ye _ _ _ _ _ _ h.blk];rfl,by rw[Ye _ _ _ _ _ _ h.blk];rfl⟩
theorem DpA.two {w:World} {base rp g cap:Nat} {Ts:List Tk} {i:Nat} {e q:Int} (h:DpA w base rp g cap Ts i e q):w.cell? ⟨rp,0,none⟩=some (.slice (some ⟨g,0,none⟩) Ts.length cap)∧w.cell? ⟨rp,1,none⟩=some (.int .i64 (i:Nat)):=⟨h.four.1,h.four.2.1⟩
theorem DpA.set {w:World} {base rp g cap:Nat} {Ts:List Tk} {i i':Nat} {e q e' q':Int} {k:Nat} {v:Value} (h:DpA w base rp g cap Ts i e q) (hn:i'<Ts.length) (hb:(w.setCell ⟨rp,k,none⟩ v).heap[rp]? =some (.cells #[.slice (some ⟨g,0,none⟩) Ts.length cap,.int .i64 (i':Nat),.int .i64 e',.int .i64 q'] 77 (0,0))):DpA (w.setCell ⟨rp,k,none⟩ v) base rp g cap Ts i' e' q':=by
 refine⟨hb,qai h.row (Kept.setCell (F:=fun k=>k=rp) (p:=⟨rp,k,none⟩) (Kept.refl _ _) rfl _) (fun j h3 h4=>?_),hn,h.few,h.endk⟩;subst h4;obtain⟨cs,h5⟩:=qaw h.row j h3;rw[h.blk] at h5;simp at h5
theorem DpA.step {w:World} {base rp g cap:Nat} {Ts:List Tk} {i:Nat} {e q:Int} (h:DpA w base rp g cap Ts i e q) (hn:i+1<Ts.length):DpA (w.setCell ⟨rp,1,none⟩ (.int .i64 ((i:Int)+1))) base rp g cap Ts (i+1) e q:=by
 refine h.set hn ?_;have:=qab h.blk 1 (.int .i64 ((i:Int)+1));simpa using this
theorem DpA.bad {w:World} {base rp g cap:Nat} {Ts:List Tk} {i:Nat} {e q:Int} (h:DpA w base rp g cap Ts i e q) (c p:Int):DpA ((w.setCell ⟨rp,2,none⟩ (.int .i64 c)).setCell ⟨rp,3,none⟩ (.int .i64 p)) base rp g cap Ts i c p:=by
 have h1:DpA (w.setCell ⟨rp,2,none⟩ (.int .i64 c)) base rp g cap Ts i c q:=by
  refine h.set h.lt ?_;have:=qab h.blk 2 (.int .i64 c);simpa using this
 refine h1.set h.lt ?_;have:=qab h1.blk 3 (.int .i64 p);simpa using this
def isS (Ts:List Tk) (s:By) (i:Nat):Bool:=(tok Ts i).t==s&&((tok Ts i).k==1||(tok Ts i).k==7)
theorem qhq {Ts:List Tk} {i:Nat} (h:i<Ts.length):tok Ts i∈Ts:=by
 unfold tok;rw[List.getD_eq_getElem?_getD,List.getElem?_eq_getElem h];exact List.getElem_mem h
theorem qbo {Ts:List Tk} (hg:GdT Ts) {s:By} (hs:2≤s.length) {i:Nat} (hi:i<Ts.length):isS Ts s i=isT Ts 1 s i:=by
 have hk:=hg.word _ (qhq hi);unfold isS isT;by_cases ht:(tok Ts i).t=s
 ·by_cases h7:(tok Ts i).k=7
  ·have:=hk.2 h7
   rw[ht] at this;omega
  ·have e7:((tok Ts i).k==7)=false:=by simpa using h7
   have et:((tok Ts i).t==s)=true:=by simpa using ht
   rw[e7,et];simp
 ·have et:((tok Ts i).t==s)=false:=by simpa using ht
  rw[et];simp
theorem qa4 {Ts:List Tk} (hg:GdT Ts) {s:By} (hs:s.length=1) {i:Nat} (hi:i<Ts.length):isS Ts s i=isT Ts 7 s i:=by
 have hk:=hg.word _ (qhq hi);unfold isS isT;by_cases ht:(tok Ts i).t=s
 ·by_cases h1:(tok Ts i).k=1
  ·have:=hk.1 h1
   rw[ht] at this;omega
  ·have e1:((tok Ts i).k==1)=false:=by simpa using h1
   have et:((tok Ts i).t==s)=true:=by simpa using ht
   rw[e1,et];simp
 ·have et:((tok Ts i).t==s)=false:=by simpa using ht
  rw[et];simp
theorem qqd {Ts:List Tk} {s:By} {i:Nat} (h:isS Ts s i=true):(tok Ts i).k≠8:=by
 unfold isS at h;simp only[Bool.and_eq_true,Bool.or_eq_true,beq_iff_eq] at h;rcases h.2 with h|h<;>rw[h]<;>decide
theorem qcg {w:World} {base rp g cap:Nat} {Ts:List Tk} {i:Nat} {q:Int} (h:DpA w base rp g cap Ts i 0 q) (c p:Int):Calls Tryz.prog 31 #[.pointer (some ⟨rp,0,none⟩),.int .i64 c,.int .i64 p] w fun e' w'=>e'=.returned (.tuple #[])∧DpA w' base rp g cap Ts i c p∧Kept (fun k=>k=rp) w w':=by
 obtain⟨_,_,c2,c3⟩:=h.four;have f2:=Yf w rp 2 _ _ h.blk;have B2:=qab h.blk 2 (.int .i64 c);have e3:(w.setCell ⟨rp,2,none⟩ (.int .i64 c)).cell? ⟨rp,3,none⟩=some (.int .i64 q):=by rw[Ye _ _ _ _ _ _ B2];rfl
 have f3:=Yf _ rp 3 _ _ B2;have HD:=qaa (h.bad c p);have HK:Hid (Kept (fun k=>k=rp) w ((w.setCell ⟨rp,2,none⟩ (.int .i64 c)).setCell ⟨rp,3,none⟩ (.int .i64 p))):=Kept.setCell (F:=fun k=>k=rp) (p:=⟨rp,3,none⟩) (Kept.setCell (F:=fun k=>k=rp) (p:=⟨rp,2,none⟩) (Kept.refl _ _) rfl _) rfl _;clear h B2 c3;go_enter Tryz.func31,Tryz.ntmps31;go_wp2;go_end0;exact⟨rfl,HD.out,HK.out⟩
theorem qgb {w:World} {base rp g cap:Nat} {Ts:List Tk} {i:Nat} {e q:Int} (h:DpA w base rp g cap Ts i e q) (he:e≠0) (c p:Int):Calls Tryz.prog 31 #[.pointer (some ⟨rp,0,none⟩),.int .i64 c,.int .i64 p] w fun e' w'=>e'=.returned (.tuple #[])∧w'=w:=by
 obtain⟨_,_,c2,_⟩:=h.four;have hb:(e==0)=false:=by simpa using he
 clear h he;go_enter Tryz.func31,Tryz.ntmps31;go_wp2;go_end0;exact⟨rfl,rfl⟩
theorem qgt {w:World} {base rp g cap:Nat} {Ts:List Tk} {i:Nat} {q:Int} (h:DpA w base rp g cap Ts i 0 q) (s:By):Calls Tryz.prog 30 #[.pointer (some ⟨rp,0,none⟩),.string ⟨s.toArray⟩] w fun e' w'=>e'=.returned (.bool (isS Ts s i))∧Below w.heap.size w w':=by
 obtain⟨z,hz⟩:∃z,z=tok Ts i:=⟨_,rfl⟩;have HZ:=qaa hz;have D:=qaa h;have HR:Hid (isS Ts s i=(z.t==s&&(z.k==1||z.k==7))):=by unfold Hid isS;rw[hz]
 have hbs:=qtp z.t s;clear hz h;go_enter Tryz.func30,Tryz.ntmps30;go_upto_region 1 with fail
 have HQ:Hid (∀V,Below w.heap.size w V→(V.cell? ⟨rp,0,none⟩=some (.slice (some ⟨g,0,none⟩) Ts.length cap)∧V.cell? ⟨rp,1,none⟩=some (.int .i64 (i:Nat)))∧V.cell? ⟨g,i*6,none⟩=some (.int .i64 z.k)∧V.cell? ⟨g,i*6+1,none⟩=some (.string ⟨z.t.toArray⟩)∧V.cell? ⟨g,i*6+2,none⟩=some (.int .i64 z.n)∧V.cell? ⟨g,i*6+3,none⟩=some (.int .i64 z.a)∧V.cell? ⟨g,i*6+4,none⟩=some (.int .i64 z.b)∧V.cell? ⟨g,i*6+5,none⟩=some (.int .i64 z.p)):=fun V y=>by
  have h:=D.out.below y;rw[HZ.out];exact⟨h.two,h.cells⟩
 have hlt:(i:Int)<Ts.length:=by have:=D.out.lt;omega
 refine qam (S:=fun V=>Below w.heap.size w V) 11 (by kernel_rfl) ?_;have Bb:Hid (Below w.heap.size w w.drew):=Yj.drew;generalize w.drew=vd at *;refine qac.tk 0 rfl 6 Bb.out (fun a b=>by obtain⟨⟨_,_⟩,_,_,_,_,_,_⟩:=HQ.out a b;go_simp;first|done|rfl) ?_
 try simp only[Act.put,Ya,Yb,Yc]
 refine qac.tk 1 rfl 7 Bb.out (fun a b=>by obtain⟨⟨_,_⟩,_,_,_,_,_,_⟩:=HQ.out a b;go_simp;first|done|rfl) ?_
 try simp only[Act.put,Ya,Yb,Yc]
 refine qac.tk 2 rfl 8 Bb.out (fun a b=>by obtain⟨⟨_,_⟩,_,_,_,_,_,_⟩:=HQ.out a b;go_simp;first|done|rfl) ?_
 try simp only[Act.put,Ya,Yb,Yc]
 refine qac.tk 3 rfl 9 Bb.out (fun a b=>by obtain⟨⟨_,_⟩,_,_,_,_,_,_⟩:=HQ.out a b;go_simp;first|done|rfl) ?_
 try simp only[Act.put,Ya,Yb,Yc]
 refine qac.tk 4 rfl 10 Bb.out (fun a b=>by obtain⟨⟨_,_⟩,_,_,_,_,_,_⟩:=HQ.out a b;go_simp;first|done|rfl) ?_
 try simp only[Act.put,Ya,Yb,Yc]
 refine qac.tk 5 rfl 11 Bb.out (fun a b=>by obtain⟨⟨_,_⟩,_,_,_,_,_,_⟩:=HQ.out a b;go_simp;first|done|rfl) ?_
 try simp only[Act.put,Ya,Yb,Yc]
 refine qac.tk 6 rfl 12 Bb.out (fun a b=>by obtain⟨⟨_,_⟩,_,_,_,_,_,_⟩:=HQ.out a b;go_simp;first|done|rfl) ?_
 try simp only[Act.put,Ya,Yb,Yc]
 refine qac.tk 7 rfl 13 Bb.out (fun a b=>by obtain⟨⟨_,_⟩,_,_,_,_,_,_⟩:=HQ.out a b;go_simp;first|done|rfl) ?_
 try simp only[Act.put,Ya,Yb,Yc]
 refine qac.tk 8 rfl 14 Bb.out (fun a b=>by obtain⟨⟨_,_⟩,_,_,_,_,_,_⟩:=HQ.out a b;go_simp;first|done|rfl) ?_
 try simp only[Act.put,Ya,Yb,Yc]
 refine qac.tk 9 rfl 15 Bb.out (fun a b=>by obtain⟨⟨_,_⟩,_,_,_,_,_,_⟩:=HQ.out a b;go_simp;first|done|rfl) ?_
 try simp only[Act.put,Ya,Yb,Yc]
 have BL:Hid (Below w.heap.size w (vd.alloc (.cells #[.int .i64 0,.string ⟨#[]⟩,.int .i64 0,.int .i64 0,.int .i64 0,.int .i64 0] 49))):=al Bb.out _;refine qac.stq 10 rfl fun K hK=>?_
 go_simp;refine hK _ _ BL.out ?_;clear hK K
 try simp only[Act.put,Ya,Yb,Yc]
 refine qac.lst rfl fun K hK=>?_
 go_simp;refine hK _ _ ?_;clear hK K hlt BL;have XT:Hid (Below w.heap.size w (vd.alloc (.cells #[.int .i64 z.k,.string ⟨z.t.toArray⟩,.int .i64 z.n,.int .i64 z.a,.int .i64 z.b,.int .i64 z.p] 49))):=al Bb.out _;have PB:=qaa (Yh vd (.cells #[.int .i64 z.k,.string ⟨z.t.toArray⟩,.int .i64 z.n,.int .i64 z.a,.int .i64 z.b,.int .i64 z.p] 49));obtain⟨PT,hPT⟩:∃P,P=vd.heap.size:=⟨_,rfl⟩;have EE:Hid (w.heap.size≤PT):=by rw[hPT];exact Bb.out.size
 rw[←hPT] at PB
 try rw[←hPT]
 clear HQ Bb hPT;generalize vd.alloc (.cells #[.int .i64 z.k,.string ⟨z.t.toArray⟩,.int .i64 z.n,.int .i64 z.a,.int .i64 z.b,.int .i64 z.p] 49)=wt at *;have g2:wt.cell? ⟨rp,2,none⟩=some (.int .i64 0):=(D.out.below XT.out).four.2.2.1;have g0:wt.cell? ⟨PT,0,none⟩=some (.int .i64 z.k):=by rw[Ye _ _ _ _ _ _ PB.out];rfl
 have g1:wt.cell? ⟨PT,1,none⟩=some (.string ⟨z.t.toArray⟩):=by rw[Ye _ _ _ _ _ _ PB.out];rfl
 by_cases ht:z.t=s
 ·have hts:(z.t==s)=true:=by simpa using ht
  rw[hts] at HR;clear hbs;by_cases h1:z.k=1
  ·have h1b:(z.k==1)=true:=by simpa using h1
   rw[h1b] at HR;clear h1;go_wp2;go_ret;exact⟨by rw[HR.out];rfl,XT.out⟩
  ·have h1b:(z.k==1)=false:=by simpa using h1
   rw[h1b] at HR;clear h1;go_wp2;go_ret;exact⟨by rw[HR.out];first|rfl|simp,XT.out⟩
 ·have hts:(z.t==s)=false:=by simpa using ht
  rw[hts] at HR;clear hbs;go_wp2;go_ret;exact⟨by rw[HR.out];rfl,XT.out⟩
theorem qkv {w:World} {base rp g cap:Nat} {Ts:List Tk} {i:Nat} {e q:Int} (h:DpA w base rp g cap Ts i e q) (he:e≠0) (s:By):Calls Tryz.prog 30 #[.pointer (some ⟨rp,0,none⟩),.string ⟨s.toArray⟩] w fun e' w'=>e'=.returned (.bool (false))∧Below w.heap.size w w':=by
 obtain⟨z,hz⟩:∃z,z=tok Ts i:=⟨_,rfl⟩;have HZ:=qaa hz;have D:=qaa h;have hb:(e==0)=false:=by simpa using he
 clear he;clear hz h;go_enter Tryz.func30,Tryz.ntmps30;go_upto_region 1 with fail
 have HQ:Hid (∀V,Below w.heap.size w V→(V.cell? ⟨rp,0,none⟩=some (.slice (some ⟨g,0,none⟩) Ts.length cap)∧V.cell? ⟨rp,1,none⟩=some (.int .i64 (i:Nat)))∧V.cell? ⟨g,i*6,none⟩=some (.int .i64 z.k)∧V.cell? ⟨g,i*6+1,none⟩=some (.string ⟨z.t.toArray⟩)∧V.cell? ⟨g,i*6+2,none⟩=some (.int .i64 z.n)∧V.cell? ⟨g,i*6+3,none⟩=some (.int .i64 z.a)∧V.cell? ⟨g,i*6+4,none⟩=some (.int .i64 z.b)∧V.cell? ⟨g,i*6+5,none⟩=some (.int .i64 z.p)):=fun V y=>by
  have h:=D.out.below y;rw[HZ.out];exact⟨h.two,h.cells⟩
 have hlt:(i:Int)<Ts.length:=by have:=D.out.lt;omega
 refine qam (S:=fun V=>Below w.heap.size w V) 11 (by kernel_rfl) ?_;have Bb:Hid (Below w.heap.size w w.drew):=Yj.drew;generalize w.drew=vd at *;refine qac.tk 0 rfl 6 Bb.out (fun a b=>by obtain⟨⟨_,_⟩,_,_,_,_,_,_⟩:=HQ.out a b;go_simp;first|done|rfl) ?_
 try simp only[Act.put,Ya,Yb,Yc]
 refine qac.tk 1 rfl 7 Bb.out (fun a b=>by obtain⟨⟨_,_⟩,_,_,_,_,_,_⟩:=HQ.out a b;go_simp;first|done|rfl) ?_
 try simp only[Act.put,Ya,Yb,Yc]
 refine qac.tk 2 rfl 8 Bb.out (fun a b=>by obtain⟨⟨_,_⟩,_,_,_,_,_,_⟩:=HQ.out a b;go_simp;first|done|rfl) ?_
 try simp only[Act.put,Ya,Yb,Yc]
 refine qac.tk 3 rfl 9 Bb.out (fun a b=>by obtain⟨⟨_,_⟩,_,_,_,_,_,_⟩:=HQ.out a b;go_simp;first|done|rfl) ?_
 try simp only[Act.put,Ya,Yb,Yc]
 refine qac.tk 4 rfl 10 Bb.out (fun a b=>by obtain⟨⟨_,_⟩,_,_,_,_,_,_⟩:=HQ.out a b;go_simp;first|done|rfl) ?_
 try simp only[Act.put,Ya,Yb,Yc]
 refine qac.tk 5 rfl 11 Bb.out (fun a b=>by obtain⟨⟨_,_⟩,_,_,_,_,_,_⟩:=HQ.out a b;go_simp;first|done|rfl) ?_
 try simp only[Act.put,Ya,Yb,Yc]
 refine qac.tk 6 rfl 12 Bb.out (fun a b=>by obtain⟨⟨_,_⟩,_,_,_,_,_,_⟩:=HQ.out a b;go_simp;first|done|rfl) ?_
 try simp only[Act.put,Ya,Yb,Yc]
 refine qac.tk 7 rfl 13 Bb.out (fun a b=>by obtain⟨⟨_,_⟩,_,_,_,_,_,_⟩:=HQ.out a b;go_simp;first|done|rfl) ?_
 try simp only[Act.put,Ya,Yb,Yc]
 refine qac.tk 8 rfl 14 Bb.out (fun a b=>by obtain⟨⟨_,_⟩,_,_,_,_,_,_⟩:=HQ.out a b;go_simp;first|done|rfl) ?_
 try simp only[Act.put,Ya,Yb,Yc]
 refine qac.tk 9 rfl 15 Bb.out (fun a b=>by obtain⟨⟨_,_⟩,_,_,_,_,_,_⟩:=HQ.out a b;go_simp;first|done|rfl) ?_
 try simp only[Act.put,Ya,Yb,Yc]
 have BL:Hid (Below w.heap.size w (vd.alloc (.cells #[.int .i64 0,.string ⟨#[]⟩,.int .i64 0,.int .i64 0,.int .i64 0,.int .i64 0] 49))):=al Bb.out _;refine qac.stq 10 rfl fun K hK=>?_
 go_simp;refine hK _ _ BL.out ?_;clear hK K
 try simp only[Act.put,Ya,Yb,Yc]
 refine qac.lst rfl fun K hK=>?_
 go_simp;refine hK _ _ ?_;clear hK K hlt BL;have XT:Hid (Below w.heap.size w (vd.alloc (.cells #[.int .i64 z.k,.string ⟨z.t.toArray⟩,.int .i64 z.n,.int .i64 z.a,.int .i64 z.b,.int .i64 z.p] 49))):=al Bb.out _;have PB:=qaa (Yh vd (.cells #[.int .i64 z.k,.string ⟨z.t.toArray⟩,.int .i64 z.n,.int .i64 z.a,.int .i64 z.b,.int .i64 z.p] 49));obtain⟨PT,hPT⟩:∃P,P=vd.heap.size:=⟨_,rfl⟩;have EE:Hid (w.heap.size≤PT):=by rw[hPT];exact Bb.out.size
 rw[←hPT] at PB
 try rw[←hPT]
 clear HQ Bb hPT;generalize vd.alloc (.cells #[.int .i64 z.k,.string ⟨z.t.toArray⟩,.int .i64 z.n,.int .i64 z.a,.int .i64 z.b,.int .i64 z.p] 49)=wt at *;have g2:wt.cell? ⟨rp,2,none⟩=some (.int .i64 e):=(D.out.below XT.out).four.2.2.1;have g0:wt.cell? ⟨PT,0,none⟩=some (.int .i64 z.k):=by rw[Ye _ _ _ _ _ _ PB.out];rfl
 have g1:wt.cell? ⟨PT,1,none⟩=some (.string ⟨z.t.toArray⟩):=by rw[Ye _ _ _ _ _ _ PB.out];rfl
 go_wp2;go_ret;exact⟨rfl,XT.out⟩
theorem Below.low {w w1 w9:World} {F:Nat→Prop} (h:Below w.heap.size w w1) (hk:Kept F w1 w9) (hF:∀k,F k→w.heap.size≤k):Below w.heap.size w w9:=
 ⟨hk.os.trans h.os,hk.tape.trans h.tape,hk.output.trans h.output,Nat.le_trans h.size hk.size,fun k hlt=>(hk.block k (Nat.lt_of_lt_of_le hlt h.size) (fun hf=>by have:=hF k hf;omega)).trans (h.block k hlt)⟩
theorem ld6 {W:World} {P:Nat} {t:TypeId} {f:Nat×Nat} {y0 y1 y2 y3 y4 y5:Value} (h:W.heap[P]? =some (.cells #[y0,y1,y2,y3,y4,y5] t f)):W.cell? ⟨P,0,none⟩=some y0∧W.cell? ⟨P,1,none⟩=some y1∧W.cell? ⟨P,2,none⟩=some y2∧W.cell? ⟨P,3,none⟩=some y3∧W.cell? ⟨P,4,none⟩=some y4∧W.cell? ⟨P,5,none⟩=some y5:=
 ⟨by rw[Ye _ _ _ _ _ _ h];rfl,by rw[Ye _ _ _ _ _ _ h];rfl,by rw[Ye _ _ _ _ _ _ h];rfl,by rw[Ye _ _ _ _ _ _ h];rfl,by rw[Ye _ _ _ _ _ _ h];rfl,by rw[Ye _ _ _ _ _ _ h];rfl⟩
theorem qcr {w:World} {base rp g cap:Nat} {Ts:List Tk} {i:Nat} {q:Int} (h:DpA w base rp g cap Ts i 0 q):Calls Tryz.prog 55 #[.pointer (some ⟨rp,0,none⟩)] w fun e' w'=>e'=.returned (.tuple #[])∧DpA w' base rp g cap Ts i 90 (tok Ts i).p∧Kept (fun k=>k=rp) w w':=by
 obtain⟨z,hz⟩:∃z,z=tok Ts i:=⟨_,rfl⟩;rw[←hz];have HZ:=qaa hz;have D:=qaa h;clear hz h;go_enter Tryz.func55,Tryz.ntmps55;have HQ:Hid (∀V,Below w.heap.size w V→(V.cell? ⟨rp,0,none⟩=some (.slice (some ⟨g,0,none⟩) Ts.length cap)∧V.cell? ⟨rp,1,none⟩=some (.int .i64 (i:Nat)))∧V.cell? ⟨g,i*6,none⟩=some (.int .i64 z.k)∧V.cell? ⟨g,i*6+1,none⟩=some (.string ⟨z.t.toArray⟩)∧V.cell? ⟨g,i*6+2,none⟩=some (.int .i64 z.n)∧V.cell? ⟨g,i*6+3,none⟩=some (.int .i64 z.a)∧V.cell? ⟨g,i*6+4,none⟩=some (.int .i64 z.b)∧V.cell? ⟨g,i*6+5,none⟩=some (.int .i64 z.p)):=fun V y=>by
  have h:=D.out.below y;rw[HZ.out];exact⟨h.two,h.cells⟩
 have hlt:(i:Int)<Ts.length:=by have:=D.out.lt;omega
 refine qam (S:=fun V=>Below w.heap.size w V) 12 (by kernel_rfl) ?_;have Bb:Hid (Below w.heap.size w w.drew):=Yj.drew;generalize w.drew=vd at *;refine qac.tk 0 rfl 2 Bb.out (fun a b=>by obtain⟨⟨_,_⟩,_,_,_,_,_,_⟩:=HQ.out a b;go_simp;first|done|rfl) ?_
 try simp only[Act.put,Ya,Yb,Yc]
 refine qac.tk 1 rfl 3 Bb.out (fun a b=>by obtain⟨⟨_,_⟩,_,_,_,_,_,_⟩:=HQ.out a b;go_simp;first|done|rfl) ?_
 try simp only[Act.put,Ya,Yb,Yc]
 refine qac.tk 2 rfl 4 Bb.out (fun a b=>by obtain⟨⟨_,_⟩,_,_,_,_,_,_⟩:=HQ.out a b;go_simp;first|done|rfl) ?_
 try simp only[Act.put,Ya,Yb,Yc]
 refine qac.tk 3 rfl 5 Bb.out (fun a b=>by obtain⟨⟨_,_⟩,_,_,_,_,_,_⟩:=HQ.out a b;go_simp;first|done|rfl) ?_
 try simp only[Act.put,Ya,Yb,Yc]
 refine qac.tk 4 rfl 6 Bb.out (fun a b=>by obtain⟨⟨_,_⟩,_,_,_,_,_,_⟩:=HQ.out a b;go_simp;first|done|rfl) ?_
 try simp only[Act.put,Ya,Yb,Yc]
 refine qac.tk 5 rfl 7 Bb.out (fun a b=>by obtain⟨⟨_,_⟩,_,_,_,_,_,_⟩:=HQ.out a b;go_simp;first|done|rfl) ?_
 try simp only[Act.put,Ya,Yb,Yc]
 refine qac.tk 6 rfl 8 Bb.out (fun a b=>by obtain⟨⟨_,_⟩,_,_,_,_,_,_⟩:=HQ.out a b;go_simp;first|done|rfl) ?_
 try simp only[Act.put,Ya,Yb,Yc]
 refine qac.tk 7 rfl 9 Bb.out (fun a b=>by obtain⟨⟨_,_⟩,_,_,_,_,_,_⟩:=HQ.out a b;go_simp;first|done|rfl) ?_
 try simp only[Act.put,Ya,Yb,Yc]
 refine qac.tk 8 rfl 10 Bb.out (fun a b=>by obtain⟨⟨_,_⟩,_,_,_,_,_,_⟩:=HQ.out a b;go_simp;first|done|rfl) ?_
 try simp only[Act.put,Ya,Yb,Yc]
 refine qac.tk 9 rfl 11 Bb.out (fun a b=>by obtain⟨⟨_,_⟩,_,_,_,_,_,_⟩:=HQ.out a b;go_simp;first|done|rfl) ?_
 try simp only[Act.put,Ya,Yb,Yc]
 refine qac.tk 10 rfl 12 Bb.out (fun a b=>by obtain⟨⟨_,_⟩,_,_,_,_,_,_⟩:=HQ.out a b;go_simp;first|done|rfl) ?_
 try simp only[Act.put,Ya,Yb,Yc]
 refine qac.tk 11 rfl 13 Bb.out (fun a b=>by obtain⟨⟨_,_⟩,_,_,_,_,_,_⟩:=HQ.out a b;go_simp;first|done|rfl) ?_
 try simp only[Act.put,Ya,Yb,Yc]
 have HC:=qaa (qcg (D.out.below Bb.out) 90 z.p);refine qac.lst rfl fun K hK=>?_
 go_simp;refine HC.out.mono ?_;rintro e' w2 ⟨rfl,d2,k2⟩;refine hK _ _ ?_;clear hK K hlt HQ;go_end0;exact⟨rfl,d2,(Kept.of_below Bb.out).trans k2⟩
theorem qb9 {w:World} {base rp g cap:Nat} {Ts:List Tk} {i:Nat} {e q:Int} (h:DpA w base rp g cap Ts i e q) (he:e≠0):Calls Tryz.prog 55 #[.pointer (some ⟨rp,0,none⟩)] w fun e' w'=>e'=.returned (.tuple #[])∧Below w.heap.size w w':=by
 obtain⟨z,hz⟩:∃z,z=tok Ts i:=⟨_,rfl⟩;have HZ:=qaa hz;have D:=qaa h;have HE:=qaa he;clear hz h he;go_enter Tryz.func55,Tryz.ntmps55;have HQ:Hid (∀V,Below w.heap.size w V→(V.cell? ⟨rp,0,none⟩=some (.slice (some ⟨g,0,none⟩) Ts.length cap)∧V.cell? ⟨rp,1,none⟩=some (.int .i64 (i:Nat)))∧V.cell? ⟨g,i*6,none⟩=some (.int .i64 z.k)∧V.cell? ⟨g,i*6+1,none⟩=some (.string ⟨z.t.toArray⟩)∧V.cell? ⟨g,i*6+2,none⟩=some (.int .i64 z.n)∧V.cell? ⟨g,i*6+3,none⟩=some (.int .i64 z.a)∧V.cell? ⟨g,i*6+4,none⟩=some (.int .i64 z.b)∧V.cell? ⟨g,i*6+5,none⟩=some (.int .i64 z.p)):=fun V y=>by
  have h:=D.out.below y;rw[HZ.out];exact⟨h.two,h.cells⟩
 have hlt:(i:Int)<Ts.length:=by have:=D.out.lt;omega
 refine qam (S:=fun V=>Below w.heap.size w V) 12 (by kernel_rfl) ?_;have Bb:Hid (Below w.heap.size w w.drew):=Yj.drew;generalize w.drew=vd at *;refine qac.tk 0 rfl 2 Bb.out (fun a b=>by obtain⟨⟨_,_⟩,_,_,_,_,_,_⟩:=HQ.out a b;go_simp;first|done|rfl) ?_
 try simp only[Act.put,Ya,Yb,Yc]
 refine qac.tk 1 rfl 3 Bb.out (fun a b=>by obtain⟨⟨_,_⟩,_,_,_,_,_,_⟩:=HQ.out a b;go_simp;first|done|rfl) ?_
 try simp only[Act.put,Ya,Yb,Yc]
 refine qac.tk 2 rfl 4 Bb.out (fun a b=>by obtain⟨⟨_,_⟩,_,_,_,_,_,_⟩:=HQ.out a b;go_simp;first|done|rfl) ?_
 try simp only[Act.put,Ya,Yb,Yc]
 refine qac.tk 3 rfl 5 Bb.out (fun a b=>by obtain⟨⟨_,_⟩,_,_,_,_,_,_⟩:=HQ.out a b;go_simp;first|done|rfl) ?_
 try simp only[Act.put,Ya,Yb,Yc]
 refine qac.tk 4 rfl 6 Bb.out (fun a b=>by obtain⟨⟨_,_⟩,_,_,_,_,_,_⟩:=HQ.out a b;go_simp;first|done|rfl) ?_
 try simp only[Act.put,Ya,Yb,Yc]
 refine qac.tk 5 rfl 7 Bb.out (fun a b=>by obtain⟨⟨_,_⟩,_,_,_,_,_,_⟩:=HQ.out a b;go_simp;first|done|rfl) ?_
 try simp only[Act.put,Ya,Yb,Yc]
 refine qac.tk 6 rfl 8 Bb.out (fun a b=>by obtain⟨⟨_,_⟩,_,_,_,_,_,_⟩:=HQ.out a b;go_simp;first|done|rfl) ?_
 try simp only[Act.put,Ya,Yb,Yc]
 refine qac.tk 7 rfl 9 Bb.out (fun a b=>by obtain⟨⟨_,_⟩,_,_,_,_,_,_⟩:=HQ.out a b;go_simp;first|done|rfl) ?_
 try simp only[Act.put,Ya,Yb,Yc]
 refine qac.tk 8 rfl 10 Bb.out (fun a b=>by obtain⟨⟨_,_⟩,_,_,_,_,_,_⟩:=HQ.out a b;go_simp;first|done|rfl) ?_
 try simp only[Act.put,Ya,Yb,Yc]
 refine qac.tk 9 rfl 11 Bb.out (fun a b=>by obtain⟨⟨_,_⟩,_,_,_,_,_,_⟩:=HQ.out a b;go_simp;first|done|rfl) ?_
 try simp only[Act.put,Ya,Yb,Yc]
 refine qac.tk 10 rfl 12 Bb.out (fun a b=>by obtain⟨⟨_,_⟩,_,_,_,_,_,_⟩:=HQ.out a b;go_simp;first|done|rfl) ?_
 try simp only[Act.put,Ya,Yb,Yc]
 refine qac.tk 11 rfl 13 Bb.out (fun a b=>by obtain⟨⟨_,_⟩,_,_,_,_,_,_⟩:=HQ.out a b;go_simp;first|done|rfl) ?_
 try simp only[Act.put,Ya,Yb,Yc]
 have HC:=qaa (qgb (D.out.below Bb.out) HE.out 90 z.p);refine qac.lst rfl fun K hK=>?_
 go_simp;refine HC.out.mono ?_;rintro e' w2 ⟨rfl,rfl⟩;refine hK _ _ ?_;clear hK K hlt HQ;go_end0;exact⟨rfl,Bb.out⟩
theorem qkw {w:World} {base rp g cap:Nat} {Ts:List Tk} {i:Nat} {q:Int} (h:DpA w base rp g cap Ts i 0 q) {s:By} (hs:isS Ts s i=true):Calls Tryz.prog 85 #[.pointer (some ⟨rp,0,none⟩),.string ⟨s.toArray⟩] w fun e' w'=>e'=.returned (.bool true)∧DpA w' base rp g cap Ts (i+1) 0 q∧Kept (fun k=>k=rp) w w':=by
 have HN:Hid (i+1<Ts.length):=h.next (qqd hs);have HI:=qaa (qgt h s);rw[hs] at HI;have D:=qaa h;clear h hs;go_enter Tryz.func85,Tryz.ntmps85;go_upto_region 3 with(go_at_call 30;refine HI.out.mono ?_;rintro e' w1 ⟨rfl,x1⟩;have X1:=qaa x1;clear x1)
 have D1:=qaa (D.out.below X1.out);obtain⟨_,c1⟩:=D1.out.two;have f1:=Yf w1 rp 1 _ _ D1.out.blk;have fw:IntKind.i64.wrap ((i:Int)+1)=(i:Int)+1:=by have:=D1.out.few;have:=HN.out;simp[IntKind.wrap,IntKind.bits,IntKind.signed];omega
 have D2:=qaa (D1.out.step HN.out);have K2:Hid (Kept (fun k=>k=rp) w1 (w1.setCell ⟨rp,1,none⟩ (.int .i64 ((i:Int)+1)))):=Kept.setCell (F:=fun k=>k=rp) (p:=⟨rp,1,none⟩) (Kept.refl _ _) rfl _;go_wp2;go_ret;exact⟨rfl,D2.out,(Kept.of_below X1.out).trans K2.out⟩
theorem qoe {w:World} {base rp g cap:Nat} {Ts:List Tk} {i:Nat} {q:Int} (h:DpA w base rp g cap Ts i 0 q) {s:By} (hs:isS Ts s i=false):Calls Tryz.prog 85 #[.pointer (some ⟨rp,0,none⟩),.string ⟨s.toArray⟩] w fun e' w'=>e'=.returned (.bool false)∧Below w.heap.size w w':=by
 have HI:=qaa (qgt h s);rw[hs] at HI;clear h hs;go_enter Tryz.func85,Tryz.ntmps85;go_wp2_with (go_at_call 30;refine HI.out.mono ?_;rintro e' w1 ⟨rfl,x1⟩;have X1:=qaa x1;clear x1);go_ret;exact⟨rfl,X1.out⟩
theorem qio {w:World} {base rp g cap:Nat} {Ts:List Tk} {i:Nat} {e q:Int} (h:DpA w base rp g cap Ts i e q) (he:e≠0) (s:By):Calls Tryz.prog 85 #[.pointer (some ⟨rp,0,none⟩),.string ⟨s.toArray⟩] w fun e' w'=>e'=.returned (.bool false)∧Below w.heap.size w w':=by
 have HI:=qaa (qkv h he s);clear h he;go_enter Tryz.func85,Tryz.ntmps85;go_wp2_with (go_at_call 30;refine HI.out.mono ?_;rintro e' w1 ⟨rfl,x1⟩;have X1:=qaa x1;clear x1);go_ret;exact⟨rfl,X1.out⟩
theorem qqe {w:World} {base rp g cap:Nat} {Ts:List Tk} {i:Nat} {q:Int} (h:DpA w base rp g cap Ts i 0 q) {s:By} (hs:isS Ts s i=true):Calls Tryz.prog 57 #[.pointer (some ⟨rp,0,none⟩),.string ⟨s.toArray⟩] w fun e' w'=>e'=.returned (.tuple #[])∧DpA w' base rp g cap Ts (i+1) 0 q∧Kept (fun k=>k=rp) w w':=by
 have HI:=qaa (qkw h hs);clear h hs;go_enter Tryz.func57,Tryz.ntmps57;go_wp2_with (go_at_call 85;refine HI.out.mono ?_;rintro e' w1 ⟨rfl,d1,k1⟩;have D1:=qaa d1;have K1:=qaa k1;clear d1 k1);go_end0;exact⟨rfl,D1.out,K1.out⟩
theorem qof {w:World} {base rp g cap:Nat} {Ts:List Tk} {i:Nat} {q:Int} (h:DpA w base rp g cap Ts i 0 q) {s:By} (hs:isS Ts s i=false):Calls Tryz.prog 57 #[.pointer (some ⟨rp,0,none⟩),.string ⟨s.toArray⟩] w fun e' w'=>e'=.returned (.tuple #[])∧DpA w' base rp g cap Ts i 90 (tok Ts i).p∧Kept (fun k=>k=rp) w w':=by
 have HI:=qaa (qoe h hs);have HT:=qaa (fun V (y:Below w.heap.size w V)=>qcr (h.below y));generalize (tok Ts i).p=zp at *;clear h hs;go_enter Tryz.func57,Tryz.ntmps57;go_wp2_with (first
  |(go_at_call 85;refine HI.out.mono ?_;rintro e' w1 ⟨rfl,x1⟩;have X1:=qaa x1;clear x1)
  |(go_at_call 55;refine(HT.out _ X1.out).mono ?_;rintro e' w2 ⟨rfl,d1,k1⟩;have D1:=qaa d1;have K1:=qaa k1;clear d1 k1))
 go_end0;exact⟨rfl,D1.out,(Kept.of_below X1.out).trans K1.out⟩
theorem qly {w:World} {base rp g cap:Nat} {Ts:List Tk} {i:Nat} {e q:Int} (h:DpA w base rp g cap Ts i e q) (he:e≠0) (s:By):Calls Tryz.prog 57 #[.pointer (some ⟨rp,0,none⟩),.string ⟨s.toArray⟩] w fun e' w'=>e'=.returned (.tuple #[])∧Below w.heap.size w w':=by
 have HI:=qaa (qio h he s);have HT:=qaa (fun V (y:Below w.heap.size w V)=>qb9 (h.below y) he);clear h he;go_enter Tryz.func57,Tryz.ntmps57;go_wp2_with (first
  |(go_at_call 85;refine HI.out.mono ?_;rintro e' w1 ⟨rfl,x1⟩;have X1:=qaa x1;clear x1)
  |(go_at_call 55;refine(HT.out _ X1.out).mono ?_;rintro e' w2 ⟨rfl,x2⟩;have X2:=qaa (bt X1.out x2 Yi);clear x2))
 go_end0;exact⟨rfl,X2.out⟩
theorem qqf {w:World} {base rp g cap:Nat} {Ts:List Tk} {i:Nat} {q:Int} {kind:Int} (h:DpA w base rp g cap Ts i 0 q) (hk:(tok Ts i).k=kind) (h8:kind≠8):Calls Tryz.prog 56 #[.pointer (some ⟨rp,0,none⟩),.int .i64 kind] w fun e' w'=>e'=.returned (.agg (tkV (tok Ts i)))∧DpA w' base rp g cap Ts (i+1) 0 q∧Kept (fun k=>k=rp) w w':=by
 obtain⟨z,hz⟩:∃z,z=tok Ts i:=⟨_,rfl⟩;have HN:Hid (i+1<Ts.length):=h.next (by rw[hk];exact h8);rw[←hz] at hk;rw[←hz];unfold tkV;have hb:(z.k !=kind)=false:=by simp[hk]
 have HZ:=qaa hz;obtain⟨Q,hQ⟩:∃Q,Q=w.heap.size:=⟨_,rfl⟩;obtain⟨W,hW⟩:∃W,W=w.alloc (.cells #[.int .i64 0,.string ⟨#[]⟩,.int .i64 0,.int .i64 0,.int .i64 0,.int .i64 0] 49):=⟨_,rfl⟩;have X0:=qaa (show Below w.heap.size w W by rw[hW];exact al Yj _);have Q0:=qaa (show W.heap[Q]? =some (.cells #[.int .i64 0,.string ⟨#[]⟩,.int .i64 0,.int .i64 0,.int .i64 0,.int .i64 0] 49 (0,0)) by rw[hW,hQ];exact Yh w _);have D:=qaa (h.below X0.out);have Bi:=qaa hQ;have Bc:Hid (rp<Q∧g<Q):=by have:=h.gl;unfold Hid;omega
 have HB:=qaa hb;clear hz h hb hk h8;go_enter Tryz.func56,Tryz.ntmps56;go_upto_region 1 with fail
 rw[←hQ,←hW];clear hQ hW;have HQ:Hid (∀V,Below W.heap.size W V→(V.cell? ⟨rp,0,none⟩=some (.slice (some ⟨g,0,none⟩) Ts.length cap)∧V.cell? ⟨rp,1,none⟩=some (.int .i64 (i:Nat)))∧V.cell? ⟨g,i*6,none⟩=some (.int .i64 z.k)∧V.cell? ⟨g,i*6+1,none⟩=some (.string ⟨z.t.toArray⟩)∧V.cell? ⟨g,i*6+2,none⟩=some (.int .i64 z.n)∧V.cell? ⟨g,i*6+3,none⟩=some (.int .i64 z.a)∧V.cell? ⟨g,i*6+4,none⟩=some (.int .i64 z.b)∧V.cell? ⟨g,i*6+5,none⟩=some (.int .i64 z.p)):=fun V y=>by
  have h:=D.out.below y;rw[HZ.out];exact⟨h.two,h.cells⟩
 have hlt:(i:Int)<Ts.length:=by have:=D.out.lt;omega
 refine qam (S:=fun V=>Below W.heap.size W V) 11 (by kernel_rfl) ?_;have Bb:Hid (Below W.heap.size W W.drew):=Yj.drew;generalize W.drew=vd at *;refine qac.tk 0 rfl 6 Bb.out (fun a b=>by obtain⟨⟨_,_⟩,_,_,_,_,_,_⟩:=HQ.out a b;go_simp;first|done|rfl) ?_
 try simp only[Act.put,Ya,Yb,Yc]
 refine qac.tk 1 rfl 7 Bb.out (fun a b=>by obtain⟨⟨_,_⟩,_,_,_,_,_,_⟩:=HQ.out a b;go_simp;first|done|rfl) ?_
 try simp only[Act.put,Ya,Yb,Yc]
 refine qac.tk 2 rfl 8 Bb.out (fun a b=>by obtain⟨⟨_,_⟩,_,_,_,_,_,_⟩:=HQ.out a b;go_simp;first|done|rfl) ?_
 try simp only[Act.put,Ya,Yb,Yc]
 refine qac.tk 3 rfl 9 Bb.out (fun a b=>by obtain⟨⟨_,_⟩,_,_,_,_,_,_⟩:=HQ.out a b;go_simp;first|done|rfl) ?_
 try simp only[Act.put,Ya,Yb,Yc]
 refine qac.tk 4 rfl 10 Bb.out (fun a b=>by obtain⟨⟨_,_⟩,_,_,_,_,_,_⟩:=HQ.out a b;go_simp;first|done|rfl) ?_
 try simp only[Act.put,Ya,Yb,Yc]
 refine qac.tk 5 rfl 11 Bb.out (fun a b=>by obtain⟨⟨_,_⟩,_,_,_,_,_,_⟩:=HQ.out a b;go_simp;first|done|rfl) ?_
 try simp only[Act.put,Ya,Yb,Yc]
 refine qac.tk 6 rfl 12 Bb.out (fun a b=>by obtain⟨⟨_,_⟩,_,_,_,_,_,_⟩:=HQ.out a b;go_simp;first|done|rfl) ?_
 try simp only[Act.put,Ya,Yb,Yc]
 refine qac.tk 7 rfl 13 Bb.out (fun a b=>by obtain⟨⟨_,_⟩,_,_,_,_,_,_⟩:=HQ.out a b;go_simp;first|done|rfl) ?_
 try simp only[Act.put,Ya,Yb,Yc]
 refine qac.tk 8 rfl 14 Bb.out (fun a b=>by obtain⟨⟨_,_⟩,_,_,_,_,_,_⟩:=HQ.out a b;go_simp;first|done|rfl) ?_
 try simp only[Act.put,Ya,Yb,Yc]
 refine qac.tk 9 rfl 15 Bb.out (fun a b=>by obtain⟨⟨_,_⟩,_,_,_,_,_,_⟩:=HQ.out a b;go_simp;first|done|rfl) ?_
 try simp only[Act.put,Ya,Yb,Yc]
 have BL:Hid (Below W.heap.size W (vd.alloc (.cells #[.int .i64 0,.string ⟨#[]⟩,.int .i64 0,.int .i64 0,.int .i64 0,.int .i64 0] 49))):=al Bb.out _;refine qac.stq 10 rfl fun K hK=>?_
 go_simp;refine hK _ _ BL.out ?_;clear hK K
 try simp only[Act.put,Ya,Yb,Yc]
 refine qac.lst rfl fun K hK=>?_
 go_simp;refine hK _ _ ?_;clear hK K hlt BL;have XT:Hid (Below W.heap.size W (vd.alloc (.cells #[.int .i64 z.k,.string ⟨z.t.toArray⟩,.int .i64 z.n,.int .i64 z.a,.int .i64 z.b,.int .i64 z.p] 49))):=al Bb.out _;have PB:=qaa (Yh vd (.cells #[.int .i64 z.k,.string ⟨z.t.toArray⟩,.int .i64 z.n,.int .i64 z.a,.int .i64 z.b,.int .i64 z.p] 49));obtain⟨PT,hPT⟩:∃P,P=vd.heap.size:=⟨_,rfl⟩;have EE:Hid (W.heap.size≤PT):=by rw[hPT];exact Bb.out.size
 rw[←hPT] at PB
 try rw[←hPT]
 clear HQ Bb hPT;generalize vd.alloc (.cells #[.int .i64 z.k,.string ⟨z.t.toArray⟩,.int .i64 z.n,.int .i64 z.a,.int .i64 z.b,.int .i64 z.p] 49)=wt at *;have D1:=qaa (D.out.below XT.out);have Q1:=qaa ((XT.out.block Q (Yd Q0.out)).trans Q0.out);have XA:=qaa (bt X0.out XT.out Yi);have g2:wt.cell? ⟨rp,2,none⟩=some (.int .i64 0):=D1.out.four.2.2.1;have g0:wt.cell? ⟨PT,0,none⟩=some (.int .i64 z.k):=by rw[Ye _ _ _ _ _ _ PB.out];rfl
 have hb:=HB.out;have nQ:Q≠rp:=by have:=Bc.out;omega
 clear D Q0 X0 XT;go_upto_region 5 with fail
 clear g2 g0 hb;obtain⟨_,c1⟩:=D1.out.two;have f1:=Yf wt rp 1 _ _ D1.out.blk;have fw:IntKind.i64.wrap ((i:Int)+1)=(i:Int)+1:=by have:=D1.out.few;have:=HN.out;simp[IntKind.wrap,IntKind.bits,IntKind.signed];omega
 go_upto_region 6 with fail
 clear c1 f1 fw;have D2:=qaa (D1.out.step HN.out);have K2:Hid (Kept (fun k=>k=rp) wt (wt.setCell ⟨rp,1,none⟩ (.int .i64 ((i:Int)+1)))):=Kept.setCell (F:=fun k=>k=rp) (p:=⟨rp,1,none⟩) (Kept.refl _ _) rfl _;have nP:PT≠rp:=by have:=D1.out.gl;have:=EE.out;have:=Bc.out;have:=Yd Q1.out;intro e;subst e;exact qar PB.out D1.out.blk (by decide) rfl
 have Q2:=qaa ((K2.out.block Q (Yd Q1.out) nQ).trans Q1.out);have P2:=qaa ((K2.out.block PT (Yd PB.out) nP).trans PB.out);have KA:=qaa ((Kept.of_below (F:=fun k=>k=rp) XA.out).trans K2.out);clear D1 K2 Q1 PB XA;generalize wt.setCell ⟨rp,1,none⟩ (.int .i64 ((i:Int)+1))=w4 at *;obtain⟨q0,q1,q2,q3,q4,q5⟩:=ld6 P2.out;obtain⟨⟨_,p0⟩,f0,⟨_,p1⟩,f1,⟨_,p2⟩,f2,⟨_,p3⟩,f3,⟨_,p4⟩,f4,⟨_,p5⟩,f5,Be,Bf⟩:=st6 Q2.out (.int .i64 z.k) (.string ⟨z.t.toArray⟩) (.int .i64 z.n) (.int .i64 z.a) (.int .i64 z.b) (.int .i64 z.p);have Bg:=qaa Be;have KQ:=qaa Bf;clear Be Bf;go_wp2;clear q0 q1 q2 q3 q4 q5;clear p0 f0 p1 f1 p2 f2 p3 f3 p4 f4 p5 f5;generalize ((((((w4.setCell ⟨Q,0,none⟩ (.int .i64 z.k)).setCell ⟨Q,1,none⟩ (.string ⟨z.t.toArray⟩)).setCell ⟨Q,2,none⟩ (.int .i64 z.n)).setCell ⟨Q,3,none⟩ (.int .i64 z.a)).setCell ⟨Q,4,none⟩ (.int .i64 z.b)).setCell ⟨Q,5,none⟩ (.int .i64 z.p))=w9 at *;obtain⟨q0,q1,q2,q3,q4,q5⟩:=ld6 Bg.out;refine Yg (by simp[results,Tryz.results56,go_sem,q0,q1,q2,q3,q4,q5];try rfl) rfl ?_;refine⟨rfl,D2.out.kept KQ.out ?_ ?_,KA.out.fin KQ.out ?_⟩
 ·have:=Bc.out
  show ¬rp=Q;omega
 ·have:=Bc.out
  show ¬g=Q;omega
 ·have:=Bi.out
  omega
theorem qog {w:World} {base rp g cap:Nat} {Ts:List Tk} {i:Nat} {q:Int} {kind:Int} (h:DpA w base rp g cap Ts i 0 q) (hk:¬(tok Ts i).k=kind):Calls Tryz.prog 56 #[.pointer (some ⟨rp,0,none⟩),.int .i64 kind] w fun e' w'=>e'=.returned (.agg #[.int .i64 0,.string ⟨#[]⟩,.int .i64 0,.int .i64 0,.int .i64 0,.int .i64 0])∧DpA w' base rp g cap Ts i 90 (tok Ts i).p∧Kept (fun k=>k=rp) w w':=by
 obtain⟨z,hz⟩:∃z,z=tok Ts i:=⟨_,rfl⟩;rw[←hz] at hk;rw[←hz];have hb:(z.k !=kind)=true:=by simpa using hk
 have HZ:=qaa hz;obtain⟨Q,hQ⟩:∃Q,Q=w.heap.size:=⟨_,rfl⟩;obtain⟨W,hW⟩:∃W,W=w.alloc (.cells #[.int .i64 0,.string ⟨#[]⟩,.int .i64 0,.int .i64 0,.int .i64 0,.int .i64 0] 49):=⟨_,rfl⟩;have X0:=qaa (show Below w.heap.size w W by rw[hW];exact al Yj _);have Q0:=qaa (show W.heap[Q]? =some (.cells #[.int .i64 0,.string ⟨#[]⟩,.int .i64 0,.int .i64 0,.int .i64 0,.int .i64 0] 49 (0,0)) by rw[hW,hQ];exact Yh w _);have D:=qaa (h.below X0.out);have Bi:=qaa hQ;have Bc:Hid (rp<Q∧g<Q):=by have:=h.gl;unfold Hid;omega
 have HB:=qaa hb;clear hz h hb hk;go_enter Tryz.func56,Tryz.ntmps56;go_upto_region 1 with fail
 rw[←hQ,←hW];clear hQ hW;have HQ:Hid (∀V,Below W.heap.size W V→(V.cell? ⟨rp,0,none⟩=some (.slice (some ⟨g,0,none⟩) Ts.length cap)∧V.cell? ⟨rp,1,none⟩=some (.int .i64 (i:Nat)))∧V.cell? ⟨g,i*6,none⟩=some (.int .i64 z.k)∧V.cell? ⟨g,i*6+1,none⟩=some (.string ⟨z.t.toArray⟩)∧V.cell? ⟨g,i*6+2,none⟩=some (.int .i64 z.n)∧V.cell? ⟨g,i*6+3,none⟩=some (.int .i64 z.a)∧V.cell? ⟨g,i*6+4,none⟩=some (.int .i64 z.b)∧V.cell? ⟨g,i*6+5,none⟩=some (.int .i64 z.p)):=fun V y=>by
  have h:=D.out.below y;rw[HZ.out];exact⟨h.two,h.cells⟩
 have hlt:(i:Int)<Ts.length:=by have:=D.out.lt;omega
 refine qam (S:=fun V=>Below W.heap.size W V) 11 (by kernel_rfl) ?_;have Bb:Hid (Below W.heap.size W W.drew):=Yj.drew;generalize W.drew=vd at *;refine qac.tk 0 rfl 6 Bb.out (fun a b=>by obtain⟨⟨_,_⟩,_,_,_,_,_,_⟩:=HQ.out a b;go_simp;first|done|rfl) ?_
 try simp only[Act.put,Ya,Yb,Yc]
 refine qac.tk 1 rfl 7 Bb.out (fun a b=>by obtain⟨⟨_,_⟩,_,_,_,_,_,_⟩:=HQ.out a b;go_simp;first|done|rfl) ?_
 try simp only[Act.put,Ya,Yb,Yc]
 refine qac.tk 2 rfl 8 Bb.out (fun a b=>by obtain⟨⟨_,_⟩,_,_,_,_,_,_⟩:=HQ.out a b;go_simp;first|done|rfl) ?_
 try simp only[Act.put,Ya,Yb,Yc]
 refine qac.tk 3 rfl 9 Bb.out (fun a b=>by obtain⟨⟨_,_⟩,_,_,_,_,_,_⟩:=HQ.out a b;go_simp;first|done|rfl) ?_
 try simp only[Act.put,Ya,Yb,Yc]
 refine qac.tk 4 rfl 10 Bb.out (fun a b=>by obtain⟨⟨_,_⟩,_,_,_,_,_,_⟩:=HQ.out a b;go_simp;first|done|rfl) ?_
 try simp only[Act.put,Ya,Yb,Yc]
 refine qac.tk 5 rfl 11 Bb.out (fun a b=>by obtain⟨⟨_,_⟩,_,_,_,_,_,_⟩:=HQ.out a b;go_simp;first|done|rfl) ?_
 try simp only[Act.put,Ya,Yb,Yc]
 refine qac.tk 6 rfl 12 Bb.out (fun a b=>by obtain⟨⟨_,_⟩,_,_,_,_,_,_⟩:=HQ.out a b;go_simp;first|done|rfl) ?_
 try simp only[Act.put,Ya,Yb,Yc]
 refine qac.tk 7 rfl 13 Bb.out (fun a b=>by obtain⟨⟨_,_⟩,_,_,_,_,_,_⟩:=HQ.out a b;go_simp;first|done|rfl) ?_
 try simp only[Act.put,Ya,Yb,Yc]
 refine qac.tk 8 rfl 14 Bb.out (fun a b=>by obtain⟨⟨_,_⟩,_,_,_,_,_,_⟩:=HQ.out a b;go_simp;first|done|rfl) ?_
 try simp only[Act.put,Ya,Yb,Yc]
 refine qac.tk 9 rfl 15 Bb.out (fun a b=>by obtain⟨⟨_,_⟩,_,_,_,_,_,_⟩:=HQ.out a b;go_simp;first|done|rfl) ?_
 try simp only[Act.put,Ya,Yb,Yc]
 have BL:Hid (Below W.heap.size W (vd.alloc (.cells #[.int .i64 0,.string ⟨#[]⟩,.int .i64 0,.int .i64 0,.int .i64 0,.int .i64 0] 49))):=al Bb.out _;refine qac.stq 10 rfl fun K hK=>?_
 go_simp;refine hK _ _ BL.out ?_;clear hK K
 try simp only[Act.put,Ya,Yb,Yc]
 refine qac.lst rfl fun K hK=>?_
 go_simp;refine hK _ _ ?_;clear hK K hlt BL;have XT:Hid (Below W.heap.size W (vd.alloc (.cells #[.int .i64 z.k,.string ⟨z.t.toArray⟩,.int .i64 z.n,.int .i64 z.a,.int .i64 z.b,.int .i64 z.p] 49))):=al Bb.out _;have PB:=qaa (Yh vd (.cells #[.int .i64 z.k,.string ⟨z.t.toArray⟩,.int .i64 z.n,.int .i64 z.a,.int .i64 z.b,.int .i64 z.p] 49));obtain⟨PT,hPT⟩:∃P,P=vd.heap.size:=⟨_,rfl⟩;have EE:Hid (W.heap.size≤PT):=by rw[hPT];exact Bb.out.size
 rw[←hPT] at PB
 try rw[←hPT]
 clear HQ Bb hPT;generalize vd.alloc (.cells #[.int .i64 z.k,.string ⟨z.t.toArray⟩,.int .i64 z.n,.int .i64 z.a,.int .i64 z.b,.int .i64 z.p] 49)=wt at *;have D1:=qaa (D.out.below XT.out);have Q1:=qaa ((XT.out.block Q (Yd Q0.out)).trans Q0.out);have XA:=qaa (bt X0.out XT.out Yi);have g2:wt.cell? ⟨rp,2,none⟩=some (.int .i64 0):=D1.out.four.2.2.1;have g0:wt.cell? ⟨PT,0,none⟩=some (.int .i64 z.k):=by rw[Ye _ _ _ _ _ _ PB.out];rfl
 have hb:=HB.out;have nQ:Q≠rp:=by have:=Bc.out;omega
 clear D Q0 X0 XT;have HT:=qaa (qcr D1.out);rw[←HZ.out] at HT;go_upto_region 4 with(go_at_call 55;refine HT.out.mono ?_;rintro e' w4 ⟨rfl,d4,k4⟩;have D2:=qaa d4;have K2:=qaa k4;clear d4 k4)
 clear g2 g0 hb;have Q2:=qaa ((K2.out.block Q (Yd Q1.out) nQ).trans Q1.out);have KA:=qaa ((Kept.of_below (F:=fun k=>k=rp) XA.out).trans K2.out);clear D1 K2 Q1 PB XA HT;obtain⟨⟨_,p0⟩,f0,⟨_,p1⟩,f1,⟨_,p2⟩,f2,⟨_,p3⟩,f3,⟨_,p4⟩,f4,⟨_,p5⟩,f5,Be,Bf⟩:=st6 Q2.out (.int .i64 0) (.string ⟨#[]⟩) (.int .i64 0) (.int .i64 0) (.int .i64 0) (.int .i64 0);have Bg:=qaa Be;have KQ:=qaa Bf;clear Be Bf;go_wp2;clear p0 f0 p1 f1 p2 f2 p3 f3 p4 f4 p5 f5;generalize ((((((w4.setCell ⟨Q,0,none⟩ (.int .i64 0)).setCell ⟨Q,1,none⟩ (.string ⟨#[]⟩)).setCell ⟨Q,2,none⟩ (.int .i64 0)).setCell ⟨Q,3,none⟩ (.int .i64 0)).setCell ⟨Q,4,none⟩ (.int .i64 0)).setCell ⟨Q,5,none⟩ (.int .i64 0))=w9 at *;obtain⟨q0,q1,q2,q3,q4,q5⟩:=ld6 Bg.out;refine Yg (by simp[results,Tryz.results56,go_sem,q0,q1,q2,q3,q4,q5];try rfl) rfl ?_;refine⟨rfl,D2.out.kept KQ.out ?_ ?_,KA.out.fin KQ.out ?_⟩
 ·have:=Bc.out
  show ¬rp=Q;omega
 ·have:=Bc.out
  show ¬g=Q;omega
 ·have:=Bi.out
  omega
theorem qlz {w:World} {base rp g cap:Nat} {Ts:List Tk} {i:Nat} {e q:Int} {kind:Int} (h:DpA w base rp g cap Ts i e q) (he:e≠0):Calls Tryz.prog 56 #[.pointer (some ⟨rp,0,none⟩),.int .i64 kind] w fun e' w'=>e'=.returned (.agg #[.int .i64 0,.string ⟨#[]⟩,.int .i64 0,.int .i64 0,.int .i64 0,.int .i64 0])∧Below w.heap.size w w':=by
 obtain⟨z,hz⟩:∃z,z=tok Ts i:=⟨_,rfl⟩;have hb:(e !=0)=true:=by simpa using he
 have HE:=qaa he;have HZ:=qaa hz;obtain⟨Q,hQ⟩:∃Q,Q=w.heap.size:=⟨_,rfl⟩;obtain⟨W,hW⟩:∃W,W=w.alloc (.cells #[.int .i64 0,.string ⟨#[]⟩,.int .i64 0,.int .i64 0,.int .i64 0,.int .i64 0] 49):=⟨_,rfl⟩;have X0:=qaa (show Below w.heap.size w W by rw[hW];exact al Yj _);have Q0:=qaa (show W.heap[Q]? =some (.cells #[.int .i64 0,.string ⟨#[]⟩,.int .i64 0,.int .i64 0,.int .i64 0,.int .i64 0] 49 (0,0)) by rw[hW,hQ];exact Yh w _);have D:=qaa (h.below X0.out);have Bi:=qaa hQ;have Bc:Hid (rp<Q∧g<Q):=by have:=h.gl;unfold Hid;omega
 have HB:=qaa hb;clear hz h hb he;go_enter Tryz.func56,Tryz.ntmps56;go_upto_region 1 with fail
 rw[←hQ,←hW];clear hQ hW;have HQ:Hid (∀V,Below W.heap.size W V→(V.cell? ⟨rp,0,none⟩=some (.slice (some ⟨g,0,none⟩) Ts.length cap)∧V.cell? ⟨rp,1,none⟩=some (.int .i64 (i:Nat)))∧V.cell? ⟨g,i*6,none⟩=some (.int .i64 z.k)∧V.cell? ⟨g,i*6+1,none⟩=some (.string ⟨z.t.toArray⟩)∧V.cell? ⟨g,i*6+2,none⟩=some (.int .i64 z.n)∧V.cell? ⟨g,i*6+3,none⟩=some (.int .i64 z.a)∧V.cell? ⟨g,i*6+4,none⟩=some (.int .i64 z.b)∧V.cell? ⟨g,i*6+5,none⟩=some (.int .i64 z.p)):=fun V y=>by
  have h:=D.out.below y;rw[HZ.out];exact⟨h.two,h.cells⟩
 have hlt:(i:Int)<Ts.length:=by have:=D.out.lt;omega
 refine qam (S:=fun V=>Below W.heap.size W V) 11 (by kernel_rfl) ?_;have Bb:Hid (Below W.heap.size W W.drew):=Yj.drew;generalize W.drew=vd at *;refine qac.tk 0 rfl 6 Bb.out (fun a b=>by obtain⟨⟨_,_⟩,_,_,_,_,_,_⟩:=HQ.out a b;go_simp;first|done|rfl) ?_
 try simp only[Act.put,Ya,Yb,Yc]
 refine qac.tk 1 rfl 7 Bb.out (fun a b=>by obtain⟨⟨_,_⟩,_,_,_,_,_,_⟩:=HQ.out a b;go_simp;first|done|rfl) ?_
 try simp only[Act.put,Ya,Yb,Yc]
 refine qac.tk 2 rfl 8 Bb.out (fun a b=>by obtain⟨⟨_,_⟩,_,_,_,_,_,_⟩:=HQ.out a b;go_simp;first|done|rfl) ?_
 try simp only[Act.put,Ya,Yb,Yc]
 refine qac.tk 3 rfl 9 Bb.out (fun a b=>by obtain⟨⟨_,_⟩,_,_,_,_,_,_⟩:=HQ.out a b;go_simp;first|done|rfl) ?_
 try simp only[Act.put,Ya,Yb,Yc]
 refine qac.tk 4 rfl 10 Bb.out (fun a b=>by obtain⟨⟨_,_⟩,_,_,_,_,_,_⟩:=HQ.out a b;go_simp;first|done|rfl) ?_
 try simp only[Act.put,Ya,Yb,Yc]
 refine qac.tk 5 rfl 11 Bb.out (fun a b=>by obtain⟨⟨_,_⟩,_,_,_,_,_,_⟩:=HQ.out a b;go_simp;first|done|rfl) ?_
 try simp only[Act.put,Ya,Yb,Yc]
 refine qac.tk 6 rfl 12 Bb.out (fun a b=>by obtain⟨⟨_,_⟩,_,_,_,_,_,_⟩:=HQ.out a b;go_simp;first|done|rfl) ?_
 try simp only[Act.put,Ya,Yb,Yc]
 refine qac.tk 7 rfl 13 Bb.out (fun a b=>by obtain⟨⟨_,_⟩,_,_,_,_,_,_⟩:=HQ.out a b;go_simp;first|done|rfl) ?_
 try simp only[Act.put,Ya,Yb,Yc]
 refine qac.tk 8 rfl 14 Bb.out (fun a b=>by obtain⟨⟨_,_⟩,_,_,_,_,_,_⟩:=HQ.out a b;go_simp;first|done|rfl) ?_
 try simp only[Act.put,Ya,Yb,Yc]
 refine qac.tk 9 rfl 15 Bb.out (fun a b=>by obtain⟨⟨_,_⟩,_,_,_,_,_,_⟩:=HQ.out a b;go_simp;first|done|rfl) ?_
 try simp only[Act.put,Ya,Yb,Yc]
 have BL:Hid (Below W.heap.size W (vd.alloc (.cells #[.int .i64 0,.string ⟨#[]⟩,.int .i64 0,.int .i64 0,.int .i64 0,.int .i64 0] 49))):=al Bb.out _;refine qac.stq 10 rfl fun K hK=>?_
 go_simp;refine hK _ _ BL.out ?_;clear hK K
 try simp only[Act.put,Ya,Yb,Yc]
 refine qac.lst rfl fun K hK=>?_
 go_simp;refine hK _ _ ?_;clear hK K hlt BL;have XT:Hid (Below W.heap.size W (vd.alloc (.cells #[.int .i64 z.k,.string ⟨z.t.toArray⟩,.int .i64 z.n,.int .i64 z.a,.int .i64 z.b,.int .i64 z.p] 49))):=al Bb.out _;have PB:=qaa (Yh vd (.cells #[.int .i64 z.k,.string ⟨z.t.toArray⟩,.int .i64 z.n,.int .i64 z.a,.int .i64 z.b,.int .i64 z.p] 49));obtain⟨PT,hPT⟩:∃P,P=vd.heap.size:=⟨_,rfl⟩;have EE:Hid (W.heap.size≤PT):=by rw[hPT];exact Bb.out.size
 rw[←hPT] at PB
 try rw[←hPT]
 clear HQ Bb hPT;generalize vd.alloc (.cells #[.int .i64 z.k,.string ⟨z.t.toArray⟩,.int .i64 z.n,.int .i64 z.a,.int .i64 z.b,.int .i64 z.p] 49)=wt at *;have D1:=qaa (D.out.below XT.out);have Q1:=qaa ((XT.out.block Q (Yd Q0.out)).trans Q0.out);have XA:=qaa (bt X0.out XT.out Yi);have g2:wt.cell? ⟨rp,2,none⟩=some (.int .i64 e):=D1.out.four.2.2.1;have g0:wt.cell? ⟨PT,0,none⟩=some (.int .i64 z.k):=by rw[Ye _ _ _ _ _ _ PB.out];rfl
 have hb:=HB.out;have nQ:Q≠rp:=by have:=Bc.out;omega
 clear D Q0 X0 XT;have HT:=qaa (qb9 D1.out HE.out);go_upto_region 4 with(go_at_call 55;refine HT.out.mono ?_;rintro e' w4 ⟨rfl,x4⟩;have X4:=qaa x4;clear x4)
 clear g2 g0 hb;have Q2:=qaa ((X4.out.block Q (Yd Q1.out)).trans Q1.out);have XB:=qaa (bt XA.out X4.out Yi);clear D1 Q1 PB XA HT X4;obtain⟨⟨_,p0⟩,f0,⟨_,p1⟩,f1,⟨_,p2⟩,f2,⟨_,p3⟩,f3,⟨_,p4⟩,f4,⟨_,p5⟩,f5,Be,Bf⟩:=st6 Q2.out (.int .i64 0) (.string ⟨#[]⟩) (.int .i64 0) (.int .i64 0) (.int .i64 0) (.int .i64 0);have Bg:=qaa Be;have KQ:=qaa Bf;clear Be Bf;go_wp2;clear p0 f0 p1 f1 p2 f2 p3 f3 p4 f4 p5 f5;generalize ((((((w4.setCell ⟨Q,0,none⟩ (.int .i64 0)).setCell ⟨Q,1,none⟩ (.string ⟨#[]⟩)).setCell ⟨Q,2,none⟩ (.int .i64 0)).setCell ⟨Q,3,none⟩ (.int .i64 0)).setCell ⟨Q,4,none⟩ (.int .i64 0)).setCell ⟨Q,5,none⟩ (.int .i64 0))=w9 at *;obtain⟨q0,q1,q2,q3,q4,q5⟩:=ld6 Bg.out;refine Yg (by simp[results,Tryz.results56,go_sem,q0,q1,q2,q3,q4,q5];try rfl) rfl ?_;exact⟨rfl,Below.low XB.out KQ.out (fun k hk=>by have:=Bi.out;rw[hk];omega)⟩
end Go.Proofs.YtlmhofjiobmodaaGreatDoor

