/-
  The reader: the words of kinds; which kind begins at the next token; ports. By their contracts. No condition.
-/
import Derived.Test.YtlmhofjiobmodaaGreatDoorP04
import Derived.Test.YtlmhofjiobmodaaGreatDoorP05
set_option maxRecDepth 100000
set_option maxHeartbeats 16000000
namespace Go.Proofs.YtlmhofjiobmodaaGreatDoor
open Go.RowKit Go.Lib
theorem qh7 (k:Nat) (h1:1≤k) (h2:k≤12) (w:World):Calls Tryz.prog 166 #[.int .i64 (k:Nat)] w fun e w'=>e=.returned (.string ⟨(qeu k).toArray⟩)∧w'=w:=by
 rcases k with _|_|_|_|_|_|_|_|_|_|_|_|_|k
 all_goals first|(exfalso;omega)|skip
 all_goals
  clear h1 h2
  try simp only[Nat.zero_add,Nat.reduceAdd]
  go_enter Tryz.func166,Tryz.ntmps166;go_wp2;go_ret;exact⟨rfl,rfl⟩
theorem qh8 (k:Nat) (h1:1≤k) (h2:k≤3) (w:World):Calls Tryz.prog 73 #[.int .i64 (k:Nat)] w fun e w'=>e=.returned (.string ⟨(qe8 k).toArray⟩)∧w'=w:=by
 rcases k with _|_|_|_|k
 all_goals first|(exfalso;omega)|skip
 all_goals
  clear h1 h2
  try simp only[Nat.zero_add,Nat.reduceAdd]
  go_enter Tryz.func73,Tryz.ntmps73;go_wp2;go_ret;exact⟨rfl,rfl⟩
theorem qe5 {w:World} {base rp g cap:Nat} {Ts:List Tk} {i:Nat} (h:RdA w base rp g cap Ts i):Calls Tryz.prog 144 #[.pointer (some ⟨rp,0,none⟩)] w fun e w'=>e=.returned (.int .i64 (qbd Ts i:Nat))∧Below w.heap.size w w':=by
 have HR:=qaa h;clear h;go_enter Tryz.func144,Tryz.ntmps144;go_wp2;go_loopw [3] (fun x wr=>∃k:Nat,1≤k∧k≤13∧x=.int .i64 k∧Hid (qbd Ts i=qbu Ts qeu i (13-k) k)∧Hid (Below w.heap.size w wr)) (fun x _=>13-(RowKit.intOf x).toNat)
 case atStart=>exact⟨1,Nat.le_refl _,by decide,rfl,rfl,Below.refl _ _⟩
 case round=>
  obtain⟨k,hk1,hk2,rfl,HK,HX⟩:=hrel;by_cases hk:k≤12
  ·have hk':(k:Int)≤12:=by omega
   have HW:=qaa (qh7 k hk1 hk wr);have HI:=qaa (qb6 (HR.out.below HX.out) (qeu k));have HKK:Hid (qbu Ts qeu i (13-k) k=if isT Ts 1 (qeu k) i=true then k else qbu Ts qeu i (13-(k+1)) (k+1)):=by
    unfold Hid;rw[show 13-k=(13-(k+1))+1 by omega,qbu]
   generalize qeu k=t at *;cases hb:isT Ts 1 t i with
   |true=>
    rw[hb] at HI HKK;go_wp2_with (first
     |(go_at_call 166;refine HW.out.mono ?_;rintro e wz ⟨rfl,Ba⟩;have Ba:=Ba.symm;subst Ba)
     |(go_at_call 72;refine HI.out.mono ?_;rintro e w1 ⟨rfl,x1⟩;have X1:=qaa (HX.out.trans (x1.mono HX.out.size));clear x1))
    go_ret;exact⟨by rw[HK.out,HKK.out];simp,X1.out⟩
   |false=>
    rw[hb] at HI HKK;go_wp2_with (first
     |(go_at_call 166;refine HW.out.mono ?_;rintro e wz ⟨rfl,Ba⟩;have Ba:=Ba.symm;subst Ba)
     |(go_at_call 72;refine HI.out.mono ?_;rintro e w1 ⟨rfl,x1⟩;have X1:=qaa (HX.out.trans (x1.mono HX.out.size));clear x1))
    go_roundw
    case rel=>exact⟨k+1,by omega,by omega,by go_num,by unfold Hid;rw[HK.out,HKK.out];simp,X1⟩
    case measure=>simp[RowKit.intOf];omega
  ·have hk':¬(k:Int)≤12:=by omega
   have hke:k=13:=by omega
   go_wp2;go_ret;exact⟨by rw[HK.out,hke];rfl,HX.out⟩
theorem qh9 {w:World} {base rp g cap:Nat} {Ts:List Tk} {i:Nat} (h:RdA w base rp g cap Ts i):Calls Tryz.prog 51 #[.pointer (some ⟨rp,0,none⟩)] w fun e w'=>(qas Ts i≠0→e=.returned (.int .i64 (qas Ts i:Nat)))∧(qas Ts i=0→e=pan 90 (tok Ts i).p)∧Below w.heap.size w w':=by
 have HR:=qaa h;clear h;go_enter Tryz.func51,Tryz.ntmps51;go_wp2;go_loopw [3] (fun x wr=>∃k:Nat,1≤k∧k≤4∧x=.int .i64 k∧Hid (qas Ts i=qbu Ts qe8 i (4-k) k)∧Hid (Below w.heap.size w wr)) (fun x _=>4-(RowKit.intOf x).toNat)
 case atStart=>exact⟨1,Nat.le_refl _,by decide,rfl,rfl,Below.refl _ _⟩
 case round=>
  obtain⟨k,hk1,hk2,rfl,HK,HX⟩:=hrel;by_cases hk:k≤3
  ·have hk':(k:Int)≤3:=by omega
   have HW:=qaa (qh8 k hk1 hk wr);have HI:=qaa (qb6 (HR.out.below HX.out) (qe8 k));have HKK:Hid (qbu Ts qe8 i (4-k) k=if isT Ts 1 (qe8 k) i=true then k else qbu Ts qe8 i (4-(k+1)) (k+1)):=by
    unfold Hid;rw[show 4-k=(4-(k+1))+1 by omega,qbu]
   generalize qe8 k=t at *;cases hb:isT Ts 1 t i with
   |true=>
    rw[hb] at HI HKK;go_wp2_with (first
     |(go_at_call 73;refine HW.out.mono ?_;rintro e wz ⟨rfl,Ba⟩;have Ba:=Ba.symm;subst Ba)
     |(go_at_call 72;refine HI.out.mono ?_;rintro e w1 ⟨rfl,x1⟩;have X1:=qaa (HX.out.trans (x1.mono HX.out.size));clear x1))
    go_ret;have e:qas Ts i=k:=by rw[HK.out,HKK.out];simp
    exact⟨fun _=>by rw[e];rfl,fun h=>by omega,X1.out⟩
   |false=>
    rw[hb] at HI HKK;go_wp2_with (first
     |(go_at_call 73;refine HW.out.mono ?_;rintro e wz ⟨rfl,Ba⟩;have Ba:=Ba.symm;subst Ba)
     |(go_at_call 72;refine HI.out.mono ?_;rintro e w1 ⟨rfl,x1⟩;have X1:=qaa (HX.out.trans (x1.mono HX.out.size));clear x1))
    go_roundw
    case rel=>exact⟨k+1,by omega,by omega,by go_num,by unfold Hid;rw[HK.out,HKK.out];simp,X1⟩
    case measure=>simp[RowKit.intOf];omega
  ·have hk':¬(k:Int)≤3:=by omega
   have hke:k=4:=by omega
   have E8:=qaa (qb7 (HR.out.below HX.out) 90);have HE:Hid (qas Ts i=0):=by unfold Hid;rw[HK.out,hke];rfl
   go_wp2_with (go_at_call 52;refine E8.out.mono ?_;rintro e w3 ⟨he,x3⟩;unfold pan at he;subst he;have X3:=qaa (HX.out.trans (x3.mono HX.out.size));clear x3);exact⟨rfl,fun h=>absurd HE.out h,fun _=>rfl,X3.out⟩
theorem qk8 {w:World} {base rp g cap:Nat} {Ts:List Tk} {i:Nat} (h:RdA w base rp g cap Ts i):Calls Tryz.prog 147 #[.pointer (some ⟨rp,0,none⟩)] w fun e w'=>e=.returned (.bool (qe3 Ts i))∧Below w.heap.size w w':=by
 have hf:=qtq;have HT:=qaa (qcd h);have HS:=qaa (fun V (x:Below w.heap.size w V)=>qc0 (h.below x) [40]);have HW:=qaa (fun V (x:Below w.heap.size w V)=>qb6 (h.below x) qg2);have HK:=qaa (fun V (x:Below w.heap.size w V)=>qe5 (h.below x));have HB:Hid (qe3 Ts i=((tok Ts i).k==2||isT Ts 7 [40] i||isT Ts 1 qg2 i||qbd Ts i !=0)):=rfl;have hwn:(⟨qg2.toArray⟩:ByteArray)=⟨#[110,111,116]⟩:=rfl;rw[hwn] at HW;unfold tkV at HT;generalize tok Ts i=z at *;generalize isT Ts 7 [40] i=b1 at *;generalize isT Ts 1 qg2 i=b2 at *;clear h hwn;by_cases hk:z.k=2
 ·have hkk:(z.k==2)=true:=by simpa using hk
  go_enter Tryz.func147,Tryz.ntmps147;go_wp2_with (go_at_call 50;refine HT.out.mono ?_;rintro e w1 ⟨rfl,x1⟩;have X1:=qaa x1;clear x1);go_ret;exact⟨by rw[HB.out,hkk];rfl,X1.out⟩
 ·have hkk:(z.k==2)=false:=by simpa using hk
  cases b1 with
  |true=>
   go_enter Tryz.func147,Tryz.ntmps147;go_wp2_with (first
    |(go_at_call 50;refine HT.out.mono ?_;rintro e w1 ⟨rfl,x1⟩;have X1:=qaa x1;clear x1)
    |(go_at_call 143;refine(HS.out _ X1.out).mono ?_;rintro e w2 ⟨rfl,x2⟩;have X2:=qaa (bt X1.out x2 Yi);clear x2))
   go_ret;exact⟨by rw[HB.out,hkk];rfl,X2.out⟩
  |false=>
   cases b2 with
   |true=>
    go_enter Tryz.func147,Tryz.ntmps147;go_wp2_with (first
     |(go_at_call 50;refine HT.out.mono ?_;rintro e w1 ⟨rfl,x1⟩;have X1:=qaa x1;clear x1)
     |(go_at_call 143;refine(HS.out _ X1.out).mono ?_;rintro e w2 ⟨rfl,x2⟩;have X2:=qaa (bt X1.out x2 Yi);clear x2)
     |(go_at_call 72;refine(HW.out _ X2.out).mono ?_;rintro e w3 ⟨rfl,x3⟩;have X3:=qaa (bt X2.out x3 Yi);clear x3))
    go_ret;exact⟨by rw[HB.out,hkk];rfl,X3.out⟩
   |false=>
    have hne:(((qbd Ts i:Nat):Int)!=0)=(qbd Ts i !=0):=by
     rw[Bool.eq_iff_iff];simp
    generalize qbd Ts i=m at *;go_enter Tryz.func147,Tryz.ntmps147;go_wp2_with (first
     |(go_at_call 50;refine HT.out.mono ?_;rintro e w1 ⟨rfl,x1⟩;have X1:=qaa x1;clear x1)
     |(go_at_call 143;refine(HS.out _ X1.out).mono ?_;rintro e w2 ⟨rfl,x2⟩;have X2:=qaa (bt X1.out x2 Yi);clear x2)
     |(go_at_call 72;refine(HW.out _ X2.out).mono ?_;rintro e w3 ⟨rfl,x3⟩;have X3:=qaa (bt X2.out x3 Yi);clear x3)
     |(go_at_call 144;refine(HK.out _ X3.out).mono ?_;rintro e w4 ⟨rfl,x4⟩;have X4:=qaa (bt X3.out x4 Yi);clear x4))
    go_ret;exact⟨by rw[HB.out,hkk];simp,X4.out⟩
def prC (L:List (Int×Int)):List Value:=L.flatMap fun x=>[.int .i64 x.1,.int .i64 x.2]
theorem qfe (L:List (Int×Int)) (x:Int×Int):prC (L++[x])=prC L++[.int .i64 x.1,.int .i64 x.2]:=by simp[prC]
def nsC (L:List By):List Value:=L.map fun x=>.string ⟨x.toArray⟩
theorem qka (L:List By) (x:By):nsC (L++[x])=nsC L++[.string ⟨x.toArray⟩]:=by simp[nsC]
def blk (v:Value):List Nat:=match v.ownBlock with
 |some k=>[k]
 |none=>[]
theorem qbc {v:Value} {k:Nat}:k∈blk v↔v.ownBlock=some k:=by
 unfold blk;cases h:v.ownBlock with
 |none=>simp
 |some j=>
  simp;exact⟨fun e=>e.symm,fun e=>e.symm⟩
def qaj (w:World) (base:Nat):CT→List Value→List Nat→Prop
 |.mk k nm tx pre sp ns kids p,vs,bs=>∃v3 v4 v5 v6 cs ks,vs=[.int .i64 k,.string ⟨nm.toArray⟩,.string ⟨tx.toArray⟩,v3,v4,v5,v6,.int .i64 p]∧w.ownsRow base 47 2 v3 pre.length (prC pre)∧w.ownsRow base 68 2 v4 sp.length (prC sp)∧w.ownsRow base 9 1 v5 ns.length (nsC ns)∧w.ownsRow base 60 8 v6 kids.length cs∧kidsAt kids cs ks∧bs=blk v3++(blk v4++(blk v5++(blk v6++ks)))
where kidsAt:List CT→List Value→List Nat→Prop
 |[],cs,ks=>cs=[]∧ks=[]
 |c::l,cs,ks=>∃vs bs cs' ks',cs=vs++cs'∧ks=bs++ks'∧qaj w base c vs bs∧kidsAt l cs' ks'
abbrev qao:=qaj.kidsAt
theorem qaj.len {w:World} {base:Nat} {c:CT} {vs:List Value} {bs:List Nat} (h:qaj w base c vs bs):vs.length=8:=by
 cases c with
 |mk k nm tx pre sp ns kids p=>
  unfold qaj at h;obtain⟨v3,v4,v5,v6,cs,ks,h1,_⟩:=h;rw[h1];rfl
mutual
theorem qaj.kept {F:Nat→Prop} {w w':World} {base:Nat} (hk:Kept F w w'):∀(c:CT) (vs:List Value) (bs:List Nat),qaj w base c vs bs→(∀k∈bs,¬F k)→qaj w' base c vs bs
 |.mk k nm tx pre sp ns kids p,vs,bs,h,hF=>by
  unfold qaj at h ⊢;obtain⟨v3,v4,v5,v6,cs,ks,h1,h2,h3,h4,h5,h6,h7⟩:=h;refine⟨v3,v4,v5,v6,cs,ks,h1,qai h2 hk (fun j hj=>hF j ?_),qai h3 hk (fun j hj=>hF j ?_),qai h4 hk (fun j hj=>hF j ?_),qai h5 hk (fun j hj=>hF j ?_),qao.kept hk kids cs ks h6 (fun j hj=>hF j ?_),h7⟩
  all_goals
   rw[h7];simp only[List.mem_append,qbc];simp[hj]
theorem qao.kept {F:Nat→Prop} {w w':World} {base:Nat} (hk:Kept F w w'):∀(l:List CT) (cs:List Value) (ks:List Nat),qao w base l cs ks→(∀k∈ks,¬F k)→qao w' base l cs ks
 |[],cs,ks,h,_=>h
 |c::l,cs,ks,h,hF=>by
  obtain⟨vs,bs,cs',ks',h1,h2,h3,h4⟩:=h;refine⟨vs,bs,cs',ks',h1,h2,qaj.kept hk c vs bs h3 (fun j hj=>hF j ?_),qao.kept hk l cs' ks' h4 (fun j hj=>hF j ?_)⟩
  all_goals
   rw[h2];simp[hj]
end
theorem qaj.below {w w':World} {base:Nat} {c:CT} {vs:List Value} {bs:List Nat} (h:qaj w base c vs bs) (x:Below w.heap.size w w'):qaj w' base c vs bs:=
 qaj.kept (F:=fun _=>False) (Kept.of_below x) c vs bs h (fun _ _ h=>h)
theorem qao.below {w w':World} {base:Nat} {l:List CT} {cs:List Value} {ks:List Nat} (h:qao w base l cs ks) (x:Below w.heap.size w w'):qao w' base l cs ks:=
 qao.kept (F:=fun _=>False) (Kept.of_below x) l cs ks h (fun _ _ h=>h)
theorem qao.snoc {w:World} {base:Nat}:∀ {l:List CT} {cs:List Value} {ks:List Nat} {c:CT} {vs:List Value} {bs:List Nat},qao w base l cs ks→qaj w base c vs bs→qao w base (l++[c]) (cs++vs) (ks++bs)
 |[],cs,ks,c,vs,bs,h,hc=>by
  obtain⟨rfl,rfl⟩:=h;exact⟨vs,bs,[],[],by simp,by simp,hc,rfl,rfl⟩
 |d::l,cs,ks,c,vs,bs,h,hc=>by
  obtain⟨vs',bs',cs',ks',h1,h2,h3,h4⟩:=h;exact⟨vs',bs',cs'++vs,ks'++bs,by rw[h1,List.append_assoc],by rw[h2,List.append_assoc],h3,qao.snoc h4 hc⟩
mutual
theorem qaj.lt {w:World} {base:Nat}:∀ {c:CT} {vs:List Value} {bs:List Nat},qaj w base c vs bs→∀k∈bs,base≤k∧k<w.heap.size
 |.mk k nm tx pre sp ns kids p,vs,bs,h=>by
  unfold qaj at h;obtain⟨v3,v4,v5,v6,cs,ks,h1,h2,h3,h4,h5,h6,h7⟩:=h;intro j hj;rw[h7] at hj;simp only[List.mem_append,qbc] at hj;rcases hj with hj|hj|hj|hj|hj
  ·exact World.ownsRow.lt h2 j hj
  ·exact World.ownsRow.lt h3 j hj
  ·exact World.ownsRow.lt h4 j hj
  ·exact World.ownsRow.lt h5 j hj
  ·exact qao.lt h6 j hj
theorem qao.lt {w:World} {base:Nat}:∀ {l:List CT} {cs:List Value} {ks:List Nat},qao w base l cs ks→∀k∈ks,base≤k∧k<w.heap.size
 |[],cs,ks,h=>by
  obtain⟨_,rfl⟩:=h;intro k hk;cases hk
 |c::l,cs,ks,h=>by
  obtain⟨vs,bs,cs',ks',h1,h2,h3,h4⟩:=h;intro k hk;rw[h2,List.mem_append] at hk;rcases hk with hk|hk
  ·exact qaj.lt h3 k hk
  ·exact qao.lt h4 k hk
end
def Dg3 (n:Int):Prop:=n=1∨n=9∨n=80
def dg3 (n:Int):By:=if n=1 then [49] else if n=9 then [57] else [56,48]
def qtr (n:Int) (s:WS):Option WS:=qe4 (dg3 n) s
def qsm (x:Int×Int) (s:WS):Option WS:=(qtr x.1 s).bind fun y=>if x.2=x.1 then some y else(qe4 [45] y).bind fun z=>qtr x.2 z
theorem qmn {n:Int} (hn:Dg3 n) (w:World):Calls Tryz.prog 239 #[.int .i64 n] w fun e w'=>e=.returned (.string ⟨(dg3 n).toArray⟩)∧Below w.heap.size w w':=by
 rcases hn with rfl|rfl|rfl
 all_goals
  go_enter Tryz.func239,Tryz.ntmps239;go_wp2;go_ret;exact⟨rfl,Below.refl _ _⟩
theorem qk9 {n:Int} (hn:Dg3 n) (w:World):Calls Tryz.prog 235 #[.int .i64 n,.int .i64 10] w fun e w'=>e=.returned (.string ⟨(dg3 n).toArray⟩)∧Below w.heap.size w w':=by
 have HS:=qaa (qmn hn w);have h1:0≤n:=by rcases hn with h|h|h<;>omega
 have h2:n<100:=by rcases hn with h|h|h<;>omega
 clear hn;go_enter Tryz.func235,Tryz.ntmps235;go_wp2_with (go_at_call 239;refine HS.out.mono ?_;rintro e w1 ⟨rfl,x1⟩;have X1:=qaa x1;clear x1);go_ret;exact⟨rfl,X1.out⟩
theorem qmo {n:Int} (hn:Dg3 n) (w:World):Calls Tryz.prog 226 #[.int .i64 n] w fun e w'=>e=.returned (.string ⟨(dg3 n).toArray⟩)∧Below w.heap.size w w':=by
 have HS:=qaa (qk9 hn w);clear hn;go_enter Tryz.func226,Tryz.ntmps226;go_wp2_with (go_at_call 235;refine HS.out.mono ?_;rintro e w1 ⟨rfl,x1⟩;have X1:=qaa x1;clear x1);go_ret;exact⟨rfl,X1.out⟩
theorem qo3 {n:Int} (hn:Dg3 n) (w:World):Calls Tryz.prog 210 #[.int .i64 n] w fun e w'=>e=.returned (.string ⟨(dg3 n).toArray⟩)∧Below w.heap.size w w':=by
 have HS:=qaa (qmo hn w);clear hn;go_enter Tryz.func210,Tryz.ntmps210;go_wp2_with (go_at_call 226;refine HS.out.mono ?_;rintro e w1 ⟨rfl,x1⟩;have X1:=qaa x1;clear x1);go_ret;exact⟨rfl,X1.out⟩
theorem qia {w:World} {base wp:Nat} {s:WS} {n:Int} {x:WS} (hn:Dg3 n) (h:WrA w base wp s.1 s.2) (hx:qtr n s=some x):Calls Tryz.prog 202 #[.pointer (some ⟨wp,0,none⟩),.int .i64 n] w (qbz base wp w x):=by
 have HI:=qaa (qo3 hn w);have HM:=qaa qbn;have HO:=qaa (fun w1 (y:Below w.heap.size w w1)=>qbh (h.below y) hx);have h1:0≤n:=by rcases hn with h|h|h<;>omega
 have h2:n≤4294967295:=by rcases hn with h|h|h<;>omega
 clear hn h hx;go_enter Tryz.func202,Tryz.ntmps202;go_upto_region 1 with(go_at_call 65;refine(HM.out _).mono ?_;rintro e w2 ⟨rfl,hw⟩;subst hw)
 go_wp2_with (first|(go_at_call 210;refine HI.out.mono ?_;rintro e w1 ⟨rfl,x1⟩;have X1:=qaa x1;clear x1)|(go_at_call 105;refine(HO.out _ X1.out).mono ?_;rintro e w3 ⟨rfl,r3,x3⟩;have R3:=qaa r3;have X3:=qaa x3;clear r3 x3));go_end0;exact⟨rfl,R3.out,(KpO.of_below X1.out).trans X3.out⟩
theorem qo4 {w:World} {base wp:Nat} {s:WS} {z:Int×Int} {x:WS} (h1:Dg3 z.1) (h2:Dg3 z.2) (h:WrA w base wp s.1 s.2) (hx:qsm z s=some x):Calls Tryz.prog 171 #[.pointer (some ⟨wp,0,none⟩),.agg #[.int .i64 z.1,.int .i64 z.2]] w (qbz base wp w x):=by
 obtain⟨lo,hi⟩:=z;simp only at h1 h2 ⊢;unfold qsm at hx;obtain⟨y,hy,hx⟩:=Option.bind_eq_some_iff.1 hx;simp only at hy hx;have XW:Hid (Below w.heap.size w (w.alloc (.cells #[.int .i64 lo,.int .i64 hi] 68))):=al Yj _;have HP:=qaa (Yh w (.cells #[.int .i64 lo,.int .i64 hi] 68));have Ou:=qaa (qia h1 (h.below XW.out) hy);have Gb:=qaa ((h.below XW.out).ne HP.out (by decide));have Du:=qaa hx;have HD2:=qaa h2;clear h1 h2 h hy hx;obtain⟨P,hP⟩:∃P,P=w.heap.size:=⟨_,rfl⟩;have q0:(w.alloc (.cells #[.int .i64 lo,.int .i64 hi] 68)).cell? ⟨P,0,none⟩=some (.int .i64 lo):=by rw[hP];simp
 go_enter Tryz.func171,Tryz.ntmps171;go_upto_region 1 with fail
 rw[←hP] at HP Gb ⊢;clear hP;generalize w.alloc (.cells #[.int .i64 lo,.int .i64 hi] 68)=W at *;go_upto_region 2 with(go_at_call 202;refine Ou.out.mono ?_;rintro e w1 ⟨rfl,r1,x1⟩;have R1:=qaa r1;have X1:=qaa x1;clear r1 x1)
 clear Ou q0;have MZ:=qaa (X1.out.box HP.out (by decide) Gb.out);have q0:w1.cell? ⟨P,0,none⟩=some (.int .i64 lo):=by rw[Ye _ _ _ _ _ _ MZ.out];rfl
 have q1:w1.cell? ⟨P,1,none⟩=some (.int .i64 hi):=by rw[Ye _ _ _ _ _ _ MZ.out];rfl
 by_cases he:hi=lo
 ·subst he
  have Bl:=Du.out;rw[if_pos rfl] at Bl;obtain rfl:=Option.some.inj Bl;have hb:(hi !=hi)=false:=by simp
  clear Bl Du;go_wp2;go_end0;exact⟨rfl,R1.out,(KpO.of_below XW.out).trans X1.out⟩
 ·have Bl:=Du.out
  rw[if_neg he] at Bl;obtain⟨z,hz,hx⟩:=Option.bind_eq_some_iff.1 Bl;have HO:=qaa (qbh R1.out hz);have HN:=qaa (fun w2 (r:WrA w2 base wp z.1 z.2)=>qia HD2.out r hx);have hb:(hi !=lo)=true:=by simpa using he
  clear Bl Du he hz hx;go_upto_region 4 with(go_at_call 105;refine HO.out.mono ?_;rintro e w2 ⟨rfl,r2,x2⟩;have R2:=qaa r2;have X2:=qaa x2;clear r2 x2)
  clear HO q0 q1;have Na:=qaa (X2.out.box MZ.out (by decide) Gb.out);have q1:w2.cell? ⟨P,1,none⟩=some (.int .i64 hi):=by rw[Ye _ _ _ _ _ _ Na.out];rfl
  go_wp2_with (go_at_call 202;refine(HN.out _ R2.out).mono ?_;rintro e w3 ⟨rfl,r3,x3⟩;have R3:=qaa r3;have X3:=qaa x3;clear r3 x3);go_end0;exact⟨rfl,R3.out,(KpO.of_below XW.out).trans (X1.out.trans (X2.out.trans X3.out))⟩
end Go.Proofs.YtlmhofjiobmodaaGreatDoor
namespace Go.Proofs.YtlmhofjiobmodaaGreatDoor
theorem Fw0.ne {α:Type} {n i:Nat} {r:PR α} (h:Fw0 n i r):r≠.out:=fun e=>by rw[e] at h;exact h
theorem Fwd.lt {α:Type} {n i j:Nat} {r:PR α} {a:α} (h:Fwd n i r) (e:r=.ok a j):i<j∧j≤n:=by rw[e] at h;exact h
theorem PR.bind_ok {α β:Type} {x:PR α} {f:α→Nat→PR β} {b:β} {j:Nat} (h:x.bind f=.ok b j):∃a i,x=.ok a i∧f a i=.ok b j:=by
 cases x with
 |ok a i=>exact⟨a,i,rfl,h⟩
 |bad e p=>cases h
 |out=>cases h
def Nrw (n:Nat):CT→Prop
 |.mk _ _ _ _ _ _ kids _=>kids.length≤n∧nrwL kids
where nrwL:List CT→Prop
 |[]=>True
 |c::l=>Nrw n c∧nrwL l
theorem qha {n:Nat}:∀ {l:List CT},Nrw.nrwL n l↔∀c∈l,Nrw n c
 |[]=>by simp[Nrw.nrwL]
 |c::l=>by
  have:=@qha n l;simp[Nrw.nrwL,this]
theorem Nrw.kids {n:Nat} {c:CT} (h:Nrw n c):c.kids.length≤n∧∀k∈c.kids,Nrw n k:=by
 cases c with
 |mk k nm tx pre sp ns kids p=>
  unfold Nrw at h;exact⟨h.1,qha.1 h.2⟩
theorem Nrw.of {n:Nat} {c:CT} (h:c.kids.length≤n) (h2:∀k∈c.kids,Nrw n k):Nrw n c:=by
 cases c with
 |mk k nm tx pre sp ns kids p=>
  unfold Nrw;exact⟨h,qha.2 h2⟩
theorem qew {m:Nat}:∀ {l:List CT},dpt.dptL l≤m↔∀c∈l,dpt c≤m
 |[]=>by simp[dpt.dptL]
 |c::l=>by
  have:=@qew m l;simp[dpt.dptL,Nat.max_le,this]
theorem qck (c:CT):dpt c=dpt.dptL c.kids+1:=by
 cases c with
 |mk k nm tx pre sp ns kids p=>rw[dpt];rfl
theorem qeb:∀(l:List CT) (c:CT),dpt.dptL (l++[c])=max (dpt.dptL l) (dpt c)
 |[],c=>by simp[dpt.dptL]
 |d::l,c=>by
  rw[List.cons_append,dpt.dptL,qeb l c,dpt.dptL,Nat.max_assoc]
theorem qmp (l:List CT) (k:Nat) (h:k<l.length):dpt.dptL (l.take (k+1))=max (dpt.dptL (l.take k)) (dpt l[k]):=by
 rw[List.take_succ_eq_append_getElem h,qeb]
theorem qkb {c:CT} (h:c.kids=[]):dpt c=1:=by rw[qck,h];rfl
section
variable {Ts:List Tk}
theorem qgn {kind:Int} {c c':CT} {i j:Nat} (h:qb3 Ts kind c i=.ok c' j):c'.kids=c.kids:=by
 obtain⟨t,l,_,h⟩:=PR.bind_ok h;split at h
 ·cases h;rfl
 ·split at h
  ·split at h
   ·obtain⟨u,m,_,h⟩:=PR.bind_ok h
    cases h;rfl
   ·cases h;rfl
  ·cases h;rfl
theorem qgo {kind:Int}:∀ {f parts:Nat} {c c':CT} {i j:Nat},qba Ts kind f parts c i=.ok c' j→c'.kids=c.kids
 |0,_,_,_,_,_,h=>by cases h
 |f+1,parts,c,c',i,j,h=>by
  unfold qba at h;split at h
  ·split at h
   ·cases h
   ·obtain⟨d,l,h1,h⟩:=PR.bind_ok h
    rw[qgo h,qgn h1]
  ·obtain⟨_,l,_,h⟩:=PR.bind_ok h
   cases h;rfl
theorem qex {kind:Int} {f:Nat} {c c':CT} {i j:Nat} (h:qbp Ts f kind c i=.ok c' j):c'.kids=c.kids:=by
 obtain⟨_,l,_,h⟩:=PR.bind_ok h;obtain⟨_,m,_,h⟩:=PR.bind_ok h;obtain⟨d,q,h1,h⟩:=PR.bind_ok h;rw[qgo h,qgn h1]
theorem qgp {f:Nat} {c c':CT} {i j:Nat} (h:qa0 Ts f c i=.ok c' j):c'.kids=c.kids:=by
 unfold qa0 at h;split at h
 ·exact qex h
 split at h
 ·exact qex h
 split at h
 ·exact qex h
 split at h
 ·obtain⟨_,l,_,h⟩:=PR.bind_ok h
  obtain⟨_,m,_,h⟩:=PR.bind_ok h;cases h;rfl
 split at h
 ·obtain⟨_,l,_,h⟩:=PR.bind_ok h
  obtain⟨_,m,_,h⟩:=PR.bind_ok h;obtain⟨_,q,_,h⟩:=PR.bind_ok h;cases h;rfl
 split at h
 ·obtain⟨_,l,_,h⟩:=PR.bind_ok h
  cases h;rfl
 cases h;rfl
def Gd (n:Nat) (c:CT):Prop:=dpt c≤16∧Nrw n c
theorem Gd.leaf {n:Nat} {c:CT} (h:c.kids=[]):Gd n c:=⟨by rw[qkb h];decide,Nrw.of (by rw[h];exact Nat.zero_le _) (by rw[h];intro k hk;cases hk)⟩
theorem qkc {c c':CT} {i j:Nat} (h:qbl c i=.ok c' j):c'=c∧j=i∧dpt c≤16:=by
 unfold qbl at h;split at h
 ·cases h
 ·cases h;exact⟨rfl,rfl,by omega⟩
theorem qfs {part:Nat→PR CT} {word:By} {kind:Int}:∀(f:Nat) (ks:List CT) (p:Int) (i:Nat) (c:CT) (j:Nat),(∀l c m,i<l→l≤Ts.length→part l=.ok c m→l<m∧m≤Ts.length∧Gd Ts.length c)→ks.length≤i→i≤Ts.length→(∀k∈ks,Gd Ts.length k)→rowP Ts part word kind f ks p i=.ok c j→Gd Ts.length c
 |0,_,_,_,_,_,_,_,_,_,h=>by cases h
 |f+1,ks,p,i,c,j,hp,h1,h2,h3,h=>by
  unfold rowP at h;split at h
  ·rename_i hw
   split at h
   ·cases h
   ·obtain⟨d,l,h4,h⟩:=PR.bind_ok h
    have hi:=qdh (by decide) hw;obtain⟨q1,q2,q3⟩:=hp _ _ _ (Nat.lt_succ_self _) hi h4;exact qfs f (ks++[d]) p l c j (fun a b e g1 g2 g3=>hp a b e (by omega) g2 g3) (by rw[List.length_append,List.length_singleton];omega) q2 (fun k hk=>by
     rcases List.mem_append.1 hk with hk|hk
     ·exact h3 k hk
     ·rw[List.mem_singleton.1 hk];exact q3) h
  ·obtain⟨e1,_,e3⟩:=qkc h
   rw[e1];exact⟨e3,Nrw.of (by show ks.length≤_;omega) (fun k hk=>(h3 k hk).2)⟩
theorem qay:∀(f place i:Nat) (c:CT) (j:Nat),place≤3→i≤Ts.length→4*(Ts.length-i)+(3-place)+2≤f→qaf Ts f place i=.ok c j→Gd Ts.length c
 |0,_,_,_,_,_,_,_,h=>by cases h
 |f+1,0,i,c,j,_,hi,hf,h=>by
  rw[qdu] at h;obtain⟨d,l,h1,h⟩:=PR.bind_ok h;have g1:=qay f 1 i d l (by decide) hi (by omega) h1;have g2:=(qax f 1 i (by decide) hi (by omega)).lt h1;split at h
  ·refine qfs f [d] d.p l c j (fun a b e q1 q2 q3=>?_) (by rw[List.length_singleton];omega) g2.2 (fun k hk=>by rw[List.mem_singleton.1 hk];exact g1) h
   have q4:=(qax f 1 a (by decide) q2 (by omega)).lt q3;exact⟨q4.1,q4.2,qay f 1 a b e (by decide) q2 (by omega) q3⟩
  ·cases h;exact g1
 |f+1,1,i,c,j,_,hi,hf,h=>by
  rw[qd9] at h;obtain⟨d,l,h1,h⟩:=PR.bind_ok h;have g1:=qay f 2 i d l (by decide) hi (by omega) h1;have g2:=(qax f 2 i (by decide) hi (by omega)).lt h1;split at h
  ·refine qfs f [d] d.p l c j (fun a b e q1 q2 q3=>?_) (by rw[List.length_singleton];omega) g2.2 (fun k hk=>by rw[List.mem_singleton.1 hk];exact g1) h
   have q4:=(qax f 2 a (by decide) q2 (by omega)).lt q3;exact⟨q4.1,q4.2,qay f 2 a b e (by decide) q2 (by omega) q3⟩
  ·cases h;exact g1
 |f+1,2,i,c,j,_,hi,hf,h=>by
  rw[qdg] at h;split at h
  ·rename_i hw
   have hl:=qdh (by decide) hw;obtain⟨d,l,h1,h⟩:=PR.bind_ok h;have g1:=qay f 2 (i+1) d l (by decide) hl (by omega) h1;obtain⟨e1,_,e3⟩:=qkc h;rw[e1];exact⟨e3,Nrw.of (by show 1≤_;omega) (fun k hk=>by
    have hk:k∈[d]:=hk;rw[List.mem_singleton.1 hk];exact g1.2)⟩
  ·exact qay f 3 i c j (by decide) hi (by omega) h
 |f+1,3,i,c,j,_,hi,hf,h=>by
  rw[qc7] at h;split at h
  ·rename_i hw
   have hl:=qdh (by decide) hw;obtain⟨d,l,h1,h⟩:=PR.bind_ok h;obtain⟨_,m,_,h⟩:=PR.bind_ok h;cases h;exact qay f 0 (i+1) _ _ (by decide) hl (by omega) h1
  ·split at h
   ·cases h;exact Gd.leaf rfl
   ·split at h
    ·cases h
    ·exact Gd.leaf (qgp h)
 |f+1,n+4,i,_,_,h,_,_,_=>by omega
end
end Go.Proofs.YtlmhofjiobmodaaGreatDoor
namespace Go.Proofs.YtlmhofjiobmodaaGreatDoor
open Go.RowKit Go.Lib
theorem RdA.kept {F:Nat→Prop} {w w':World} {base rp g cap:Nat} {Ts:List Tk} {i:Nat} (h:RdA w base rp g cap Ts i) (hk:Kept F w w') (h1:¬F rp) (h2:¬F g):RdA w' base rp g cap Ts i:=
 ⟨(hk.block rp (Yd h.blk) h1).trans h.blk,qai h.row hk (fun k h3 h4=>by cases h3;exact h2 h4),h.lt,h.few,h.endk⟩
theorem qmq {w:World} {base rp g cap:Nat} {Ts:List Tk} {i:Nat} (h:RdA w base rp g cap Ts i) (n:Int) (hs:isT Ts 7 [45] i=false):Calls Tryz.prog 180 #[.pointer (some ⟨rp,0,none⟩),.int .i64 n] w fun e w'=>e=.returned (.agg #[.int .i64 n,.int .i64 n])∧Below w.heap.size w w':=by
 have X0:=qaa (show Below w.heap.size w (w.alloc (.cells #[.int .i64 0,.int .i64 0] 68)) from al Yj _);have HS:=qaa (qc0 (h.below X0.out) [45]);rw[hs] at HS;have hb0:=Yh w (.cells #[.int .i64 0,.int .i64 0] 68);have hl0:w.heap.size<(w.alloc (.cells #[.int .i64 0,.int .i64 0] 68)).heap.size:=by simp
 have HB0:=qaa hb0;have Nb:=qaa hl0;clear h hs hb0 hl0;go_enter Tryz.func180,Tryz.ntmps180;go_upto_region 2 with(go_at_call 143;refine HS.out.mono ?_;rintro e w1 ⟨rfl,x1⟩;have X1:=qaa x1;clear x1)
 have B1:=qaa ((X1.out.block w.heap.size Nb.out).trans HB0.out);have X2:=qaa (bt X0.out X1.out Yi);have e0:w1.cell? ⟨w.heap.size,0,none⟩=some (.int .i64 0):=by rw[Ye _ _ _ _ _ _ B1.out];rfl
 have f0:=Yf w1 w.heap.size 0 _ _ B1.out;have B2:=qaa (qab B1.out 0 (.int .i64 n));have e1:(w1.setCell ⟨w.heap.size,0,none⟩ (.int .i64 n)).cell? ⟨w.heap.size,1,none⟩=some (.int .i64 0):=by rw[Ye _ _ _ _ _ _ B2.out];rfl
 have f1:=Yf _ w.heap.size 1 _ _ B2.out;have B3:=qaa (qab B2.out 1 (.int .i64 n));have K3:Hid (Below w.heap.size w ((w1.setCell ⟨w.heap.size,0,none⟩ (.int .i64 n)).setCell ⟨w.heap.size,1,none⟩ (.int .i64 n))):=(X2.out.setCell Yi _).setCell Yi _;go_wp2;clear e0 f0 e1 f1;generalize (w1.setCell ⟨w.heap.size,0,none⟩ (.int .i64 n)).setCell ⟨w.heap.size,1,none⟩ (.int .i64 n)=w9 at *;have r0:w9.cell? ⟨w.heap.size,0,none⟩=some (.int .i64 n):=by rw[Ye _ _ _ _ _ _ B3.out];rfl
 have r1:w9.cell? ⟨w.heap.size,1,none⟩=some (.int .i64 n):=by rw[Ye _ _ _ _ _ _ B3.out];rfl
 refine Yg (by simp[results,Tryz.results180,go_sem,r0,r1];try rfl) rfl ?_;exact⟨rfl,K3.out⟩
theorem qb0 {Ts:List Tk} {kind:Int} {text:By} {i:Nat} (h:isT Ts kind text i=true):(tok Ts i).k=kind:=by
 unfold isT at h;simp only[Bool.and_eq_true,beq_iff_eq] at h;exact h.1
theorem qmr {w:World} {base rp g cap:Nat} {Ts:List Tk} {i:Nat} (h:RdA w base rp g cap Ts i) (n:Int) (hs:isT Ts 7 [45] i=true) (hk:(tok Ts (i+1)).k=4):Calls Tryz.prog 180 #[.pointer (some ⟨rp,0,none⟩),.int .i64 n] w fun e w'=>e=.returned (.agg #[.int .i64 n,.int .i64 (tok Ts (i+1)).n])∧RdA w' base rp g cap Ts (i+2)∧Kept (fun k=>k=rp) w w':=by
 have hn:i+1<Ts.length:=h.next (by rw[qb0 hs];decide);have X0:=qaa (show Below w.heap.size w (w.alloc (.cells #[.int .i64 0,.int .i64 0] 68)) from al Yj _);have HS:=qaa (qc0 (h.below X0.out) [45]);rw[hs] at HS;have HB0:=qaa (Yh w (.cells #[.int .i64 0,.int .i64 0] 68));have Nb:Hid (w.heap.size<(w.alloc (.cells #[.int .i64 0,.int .i64 0] 68)).heap.size):=by simp[Hid]
 have HR:=qaa h;have HN:=qaa hn;have HL:=qaa h.few;have HK:=qaa hk;have E9:Hid (rp<w.heap.size):=Yd h.blk;have Bc:Hid (g<w.heap.size):=(World.ownsRow.lt h.row g rfl).2;have fw:IntKind.i64.wrap ((i:Int)+1)=(i:Int)+1:=by have:=HL.out;have:=HN.out;simp[IntKind.wrap,IntKind.bits,IntKind.signed];omega
 have hf:=fld2;clear h hs hn hk;go_enter Tryz.func180,Tryz.ntmps180;go_upto_region 3 with(go_at_call 143;refine HS.out.mono ?_;rintro e w1 ⟨rfl,x1⟩;have X1:=qaa x1;clear x1)
 have B1:=qaa ((X1.out.block w.heap.size Nb.out).trans HB0.out);have X2:=qaa (bt X0.out X1.out Yi);have R1:=qaa (HR.out.below X2.out);obtain⟨_,c1⟩:=R1.out.two;have f1:=Yf w1 rp 1 _ _ R1.out.blk;go_upto_region 4 with fail
 clear c1 f1;have R2:=qaa (R1.out.step HN.out);have K2:Hid (Kept (fun k=>k=rp) w1 (w1.setCell ⟨rp,1,none⟩ (.int .i64 ((i:Int)+1)))):=Kept.setCell (F:=fun k=>k=rp) (p:=⟨rp,1,none⟩) (Kept.refl _ _) rfl _;have n0:¬w.heap.size=rp:=by have:=E9.out;omega
 have B2:=qaa ((K2.out.block w.heap.size (Yd B1.out) n0).trans B1.out);have KA:=qaa ((Kept.of_below (F:=fun k=>k=rp) X2.out).trans K2.out);clear R1 B1 K2 X1 X2 HS;generalize w1.setCell ⟨rp,1,none⟩ (.int .i64 ((i:Int)+1))=w2 at *;have HT:=qaa (qbk R2.out HK.out (by decide));unfold tkV at HT;obtain⟨z,hz⟩:∃z,z=tok Ts (i+1):=⟨_,rfl⟩;rw[←hz] at HT;have HZ:=qaa hz;clear hz;go_wp2_with (go_at_call 74;refine HT.out.mono ?_;rintro e w3 ⟨rfl,r3,k3⟩;have R3:=qaa r3;have K3:=qaa k3;have B3:=qaa ((k3.block w.heap.size (Yd B2.out) n0).trans B2.out);have e0:w3.cell? ⟨w.heap.size,0,none⟩=some (.int .i64 0):=(by rw[Ye _ _ _ _ _ _ B3.out];rfl);have f0:=Yf w3 w.heap.size 0 _ _ B3.out;have B4:=qaa (qab B3.out 0 (.int .i64 n));have e1:(w3.setCell ⟨w.heap.size,0,none⟩ (.int .i64 n)).cell? ⟨w.heap.size,1,none⟩=some (.int .i64 0):=(by rw[Ye _ _ _ _ _ _ B4.out];rfl);have f1:=Yf _ w.heap.size 1 _ _ B4.out;have B5:=qaa (qab B4.out 1 (.int .i64 z.n));clear r3 k3);clear e0 f0 e1 f1;have K5:Hid (Kept (fun k=>k=w.heap.size) w3 ((w3.setCell ⟨w.heap.size,0,none⟩ (.int .i64 n)).setCell ⟨w.heap.size,1,none⟩ (.int .i64 z.n))):=Kept.setCell (F:=fun k=>k=w.heap.size) (p:=⟨w.heap.size,1,none⟩) (Kept.setCell (F:=fun k=>k=w.heap.size) (p:=⟨w.heap.size,0,none⟩) (Kept.refl _ _) rfl _) rfl _;generalize (w3.setCell ⟨w.heap.size,0,none⟩ (.int .i64 n)).setCell ⟨w.heap.size,1,none⟩ (.int .i64 z.n)=w9 at *;have r0:w9.cell? ⟨w.heap.size,0,none⟩=some (.int .i64 n):=by rw[Ye _ _ _ _ _ _ B5.out];rfl
 have r1:w9.cell? ⟨w.heap.size,1,none⟩=some (.int .i64 z.n):=by rw[Ye _ _ _ _ _ _ B5.out];rfl
 refine Yg (by simp[results,Tryz.results180,go_sem,r0,r1];try rfl) rfl ?_;exact⟨by rw[HZ.out],R3.out.kept K5.out (fun e=>n0 e.symm) (Nat.ne_of_lt Bc.out),Kept.trans_new (KA.out.trans K3.out) K5.out (fun k h1 h2=>absurd h1 (by omega))⟩
theorem qms {w:World} {base rp g cap:Nat} {Ts:List Tk} {i:Nat} (h:RdA w base rp g cap Ts i) (n:Int) (hs:isT Ts 7 [45] i=true) (hk:¬(tok Ts (i+1)).k=4):Calls Tryz.prog 180 #[.pointer (some ⟨rp,0,none⟩),.int .i64 n] w fun e w'=>e=pan 90 (tok Ts (i+1)).p∧Kept (fun k=>k=rp) w w':=by
 have hn:i+1<Ts.length:=h.next (by rw[qb0 hs];decide);have X0:=qaa (show Below w.heap.size w (w.alloc (.cells #[.int .i64 0,.int .i64 0] 68)) from al Yj _);have HS:=qaa (qc0 (h.below X0.out) [45]);rw[hs] at HS;have HR:=qaa h;have HN:=qaa hn;have HL:=qaa h.few;have HK:=qaa hk;have fw:IntKind.i64.wrap ((i:Int)+1)=(i:Int)+1:=by have:=HL.out;have:=HN.out;simp[IntKind.wrap,IntKind.bits,IntKind.signed];omega
 clear h hs hn hk;go_enter Tryz.func180,Tryz.ntmps180;go_upto_region 3 with(go_at_call 143;refine HS.out.mono ?_;rintro e w1 ⟨rfl,x1⟩;have X1:=qaa x1;clear x1)
 have X2:=qaa (bt X0.out X1.out Yi);have R1:=qaa (HR.out.below X2.out);obtain⟨_,c1⟩:=R1.out.two;have f1:=Yf w1 rp 1 _ _ R1.out.blk;go_upto_region 4 with fail
 clear c1 f1;have R2:=qaa (R1.out.step HN.out);have K2:Hid (Kept (fun k=>k=rp) w1 (w1.setCell ⟨rp,1,none⟩ (.int .i64 ((i:Int)+1)))):=Kept.setCell (F:=fun k=>k=rp) (p:=⟨rp,1,none⟩) (Kept.refl _ _) rfl _;have KA:=qaa ((Kept.of_below (F:=fun k=>k=rp) X2.out).trans K2.out);clear R1 K2 X1 X2 HS;generalize w1.setCell ⟨rp,1,none⟩ (.int .i64 ((i:Int)+1))=w2 at *;have HT:=qaa (qbr R2.out HK.out);obtain⟨z,hz⟩:∃z,z=tok Ts (i+1):=⟨_,rfl⟩;rw[←hz] at HT;have HZ:=qaa hz;clear hz;go_wp2_with (go_at_call 74;refine HT.out.mono ?_;rintro e w3 ⟨he,x3⟩;unfold pan at he;subst he;have X3:=qaa x3;clear x3);exact⟨rfl,by rw[HZ.out];rfl,KA.out.trans (Kept.of_below X3.out)⟩
theorem st8 {W:World} {P:Nat} {t:TypeId} {x0 x1 x2 x3 x4 x5 x6 x7:Value} (h:W.heap[P]? =some (.cells #[x0,x1,x2,x3,x4,x5,x6,x7] t (0,0))) (y0 y1 y2 y3 y4 y5 y6 y7:Value):
 (∃u,W.cell? ⟨P,0,none⟩=some u)∧W.frozen? ⟨P,0,none⟩=false∧(∃u,(W.setCell ⟨P,0,none⟩ y0).cell? ⟨P,1,none⟩=some u)∧(W.setCell ⟨P,0,none⟩ y0).frozen? ⟨P,1,none⟩=false∧(∃u,((W.setCell ⟨P,0,none⟩ y0).setCell ⟨P,1,none⟩ y1).cell? ⟨P,2,none⟩=some u)∧((W.setCell ⟨P,0,none⟩ y0).setCell ⟨P,1,none⟩ y1).frozen? ⟨P,2,none⟩=false∧(∃u,(((W.setCell ⟨P,0,none⟩ y0).setCell ⟨P,1,none⟩ y1).setCell ⟨P,2,none⟩ y2).cell? ⟨P,3,none⟩=some u)∧(((W.setCell ⟨P,0,none⟩ y0).setCell ⟨P,1,none⟩ y1).setCell ⟨P,2,none⟩ y2).frozen? ⟨P,3,none⟩=false∧(∃u,((((W.setCell ⟨P,0,none⟩ y0).setCell ⟨P,1,none⟩ y1).setCell ⟨P,2,none⟩ y2).setCell ⟨P,3,none⟩ y3).cell? ⟨P,4,none⟩=some u)∧((((W.setCell ⟨P,0,none⟩ y0).setCell ⟨P,1,none⟩ y1).setCell ⟨P,2,none⟩ y2).setCell ⟨P,3,none⟩ y3).frozen? ⟨P,4,none⟩=false∧(∃u,(((((W.setCell ⟨P,0,none⟩ y0).setCell ⟨P,1,none⟩ y1).setCell ⟨P,2,none⟩ y2).setCell ⟨P,3,none⟩ y3).setCell ⟨P,4,none⟩ y4).cell? ⟨P,5,none⟩=some u)∧(((((W.setCell ⟨P,0,none⟩ y0).setCell ⟨P,1,none⟩ y1).setCell ⟨P,2,none⟩ y2).setCell ⟨P,3,none⟩ y3).setCell ⟨P,4,none⟩ y4).frozen? ⟨P,5,none⟩=false∧(∃u,((((((W.setCell ⟨P,0,none⟩ y0).setCell ⟨P,1,none⟩ y1).setCell ⟨P,2,none⟩ y2).setCell ⟨P,3,none⟩ y3).setCell ⟨P,4,none⟩ y4).setCell ⟨P,5,none⟩ y5).cell? ⟨P,6,none⟩=some u)∧((((((W.setCell ⟨P,0,none⟩ y0).setCell ⟨P,1,none⟩ y1).setCell ⟨P,2,none⟩ y2).setCell ⟨P,3,none⟩ y3).setCell ⟨P,4,none⟩ y4).setCell ⟨P,5,none⟩ y5).frozen? ⟨P,6,none⟩=false∧(∃u,(((((((W.setCell ⟨P,0,none⟩ y0).setCell ⟨P,1,none⟩ y1).setCell ⟨P,2,none⟩ y2).setCell ⟨P,3,none⟩ y3).setCell ⟨P,4,none⟩ y4).setCell ⟨P,5,none⟩ y5).setCell ⟨P,6,none⟩ y6).cell? ⟨P,7,none⟩=some u)∧(((((((W.setCell ⟨P,0,none⟩ y0).setCell ⟨P,1,none⟩ y1).setCell ⟨P,2,none⟩ y2).setCell ⟨P,3,none⟩ y3).setCell ⟨P,4,none⟩ y4).setCell ⟨P,5,none⟩ y5).setCell ⟨P,6,none⟩ y6).frozen? ⟨P,7,none⟩=false∧((((((((W.setCell ⟨P,0,none⟩ y0).setCell ⟨P,1,none⟩ y1).setCell ⟨P,2,none⟩ y2).setCell ⟨P,3,none⟩ y3).setCell ⟨P,4,none⟩ y4).setCell ⟨P,5,none⟩ y5).setCell ⟨P,6,none⟩ y6).setCell ⟨P,7,none⟩ y7).heap[P]? =some (.cells #[y0,y1,y2,y3,y4,y5,y6,y7] t (0,0))∧Kept (fun k=>k=P) W ((((((((W.setCell ⟨P,0,none⟩ y0).setCell ⟨P,1,none⟩ y1).setCell ⟨P,2,none⟩ y2).setCell ⟨P,3,none⟩ y3).setCell ⟨P,4,none⟩ y4).setCell ⟨P,5,none⟩ y5).setCell ⟨P,6,none⟩ y6).setCell ⟨P,7,none⟩ y7):=by
 have h0:(W.setCell ⟨P,0,none⟩ y0).heap[P]? =some (.cells #[y0,x1,x2,x3,x4,x5,x6,x7] t (0,0)):=by
  have:=qab h 0 y0;simpa using this
 have h1:((W.setCell ⟨P,0,none⟩ y0).setCell ⟨P,1,none⟩ y1).heap[P]? =some (.cells #[y0,y1,x2,x3,x4,x5,x6,x7] t (0,0)):=by
  have:=qab h0 1 y1;simpa using this
 have h2:(((W.setCell ⟨P,0,none⟩ y0).setCell ⟨P,1,none⟩ y1).setCell ⟨P,2,none⟩ y2).heap[P]? =some (.cells #[y0,y1,y2,x3,x4,x5,x6,x7] t (0,0)):=by
  have:=qab h1 2 y2;simpa using this
 have h3:((((W.setCell ⟨P,0,none⟩ y0).setCell ⟨P,1,none⟩ y1).setCell ⟨P,2,none⟩ y2).setCell ⟨P,3,none⟩ y3).heap[P]? =some (.cells #[y0,y1,y2,y3,x4,x5,x6,x7] t (0,0)):=by
  have:=qab h2 3 y3;simpa using this
 have h4:(((((W.setCell ⟨P,0,none⟩ y0).setCell ⟨P,1,none⟩ y1).setCell ⟨P,2,none⟩ y2).setCell ⟨P,3,none⟩ y3).setCell ⟨P,4,none⟩ y4).heap[P]? =some (.cells #[y0,y1,y2,y3,y4,x5,x6,x7] t (0,0)):=by
  have:=qab h3 4 y4;simpa using this
 have h5:((((((W.setCell ⟨P,0,none⟩ y0).setCell ⟨P,1,none⟩ y1).setCell ⟨P,2,none⟩ y2).setCell ⟨P,3,none⟩ y3).setCell ⟨P,4,none⟩ y4).setCell ⟨P,5,none⟩ y5).heap[P]? =some (.cells #[y0,y1,y2,y3,y4,y5,x6,x7] t (0,0)):=by
  have:=qab h4 5 y5;simpa using this
 have h6:(((((((W.setCell ⟨P,0,none⟩ y0).setCell ⟨P,1,none⟩ y1).setCell ⟨P,2,none⟩ y2).setCell ⟨P,3,none⟩ y3).setCell ⟨P,4,none⟩ y4).setCell ⟨P,5,none⟩ y5).setCell ⟨P,6,none⟩ y6).heap[P]? =some (.cells #[y0,y1,y2,y3,y4,y5,y6,x7] t (0,0)):=by
  have:=qab h5 6 y6;simpa using this
 have h7:((((((((W.setCell ⟨P,0,none⟩ y0).setCell ⟨P,1,none⟩ y1).setCell ⟨P,2,none⟩ y2).setCell ⟨P,3,none⟩ y3).setCell ⟨P,4,none⟩ y4).setCell ⟨P,5,none⟩ y5).setCell ⟨P,6,none⟩ y6).setCell ⟨P,7,none⟩ y7).heap[P]? =some (.cells #[y0,y1,y2,y3,y4,y5,y6,y7] t (0,0)):=by
  have:=qab h6 7 y7;simpa using this
 have ks:∀(V:World) (j:Nat) (u:Value),Kept (fun k=>k=P) V (V.setCell ⟨P,j,none⟩ u):=fun V j u=>Kept.setCell (F:=fun k=>k=P) (p:=⟨P,j,none⟩) (Kept.refl _ _) rfl u
 refine⟨⟨_,by rw[Ye _ _ _ _ _ _ h];rfl⟩,Yf _ _ _ _ _ h,⟨_,by rw[Ye _ _ _ _ _ _ h0];rfl⟩,Yf _ _ _ _ _ h0,⟨_,by rw[Ye _ _ _ _ _ _ h1];rfl⟩,Yf _ _ _ _ _ h1,⟨_,by rw[Ye _ _ _ _ _ _ h2];rfl⟩,Yf _ _ _ _ _ h2,⟨_,by rw[Ye _ _ _ _ _ _ h3];rfl⟩,Yf _ _ _ _ _ h3,⟨_,by rw[Ye _ _ _ _ _ _ h4];rfl⟩,Yf _ _ _ _ _ h4,⟨_,by rw[Ye _ _ _ _ _ _ h5];rfl⟩,Yf _ _ _ _ _ h5,⟨_,by rw[Ye _ _ _ _ _ _ h6];rfl⟩,Yf _ _ _ _ _ h6,h7,(((((((ks _ _ _).trans (ks _ _ _)).trans (ks _ _ _)).trans (ks _ _ _)).trans (ks _ _ _)).trans (ks _ _ _)).trans (ks _ _ _)).trans (ks _ _ _)⟩
theorem ld8 {W:World} {P:Nat} {t:TypeId} {f:Nat×Nat} {y0 y1 y2 y3 y4 y5 y6 y7:Value} (h:W.heap[P]? =some (.cells #[y0,y1,y2,y3,y4,y5,y6,y7] t f)):W.cell? ⟨P,0,none⟩=some y0∧W.cell? ⟨P,1,none⟩=some y1∧W.cell? ⟨P,2,none⟩=some y2∧W.cell? ⟨P,3,none⟩=some y3∧W.cell? ⟨P,4,none⟩=some y4∧W.cell? ⟨P,5,none⟩=some y5∧W.cell? ⟨P,6,none⟩=some y6∧W.cell? ⟨P,7,none⟩=some y7:=
 ⟨by rw[Ye _ _ _ _ _ _ h];rfl,by rw[Ye _ _ _ _ _ _ h];rfl,by rw[Ye _ _ _ _ _ _ h];rfl,by rw[Ye _ _ _ _ _ _ h];rfl,by rw[Ye _ _ _ _ _ _ h];rfl,by rw[Ye _ _ _ _ _ _ h];rfl,by rw[Ye _ _ _ _ _ _ h];rfl,by rw[Ye _ _ _ _ _ _ h];rfl⟩
theorem qaj.eight {w:World} {base:Nat} {c:CT} {vs:List Value} {bs:List Nat} (h:qaj w base c vs bs):∃a3 c3 a4 c4 a5 c5 a6 c6,vs=[.int .i64 c.k,.string ⟨c.nm.toArray⟩,.string ⟨c.tx.toArray⟩,.slice a3 c.pre.length c3,.slice a4 c.sp.length c4,.slice a5 c.ns.length c5,.slice a6 c.kids.length c6,.int .i64 c.p]:=by
 cases c with
 |mk k nm tx pre sp ns kids p=>
  unfold qaj at h;obtain⟨v3,v4,v5,v6,cs,ks,h1,h2,h3,h4,h5,_⟩:=h;obtain⟨a3,c3,e3,_⟩:=qad h2;obtain⟨a4,c4,e4,_⟩:=qad h3;obtain⟨a5,c5,e5,_⟩:=qad h4;obtain⟨a6,c6,e6,_⟩:=qad h5;exact⟨a3,c3,a4,c4,a5,c5,a6,c6,by rw[h1,e3,e4,e5,e6];rfl⟩
theorem qaj.kidsRow {w:World} {base:Nat} {c:CT} {v0 v1 v2 v3 v4 v5 v6 v7:Value} {bs:List Nat} (h:qaj w base c [v0,v1,v2,v3,v4,v5,v6,v7] bs):∃cs ks,w.ownsRow base 60 8 v6 c.kids.length cs∧qao w base c.kids cs ks∧∀k∈ks,k∈bs:=by
 cases c with
 |mk k nm tx pre sp ns kids p=>
  unfold qaj at h;obtain⟨w3,w4,w5,w6,cs,ks,h1,_,_,_,h5,h6,h7⟩:=h;cases h1;refine⟨cs,ks,h5,h6,fun k hk=>?_⟩;rw[h7];simp[hk]
theorem qao.get {w:World} {base:Nat}:∀ {l:List CT} {cs:List Value} {ks:List Nat} (_:qao w base l cs ks) (i:Nat) (hi:i<l.length),∃vs bs,qaj w base l[i] vs bs∧(∀r,r<8→cs[i*8+r]? =vs[r]?)∧∀k∈bs,k∈ks
 |[],cs,ks,h,i,hi=>by simp at hi
 |c::l,cs,ks,h,0,hi=>by
  obtain⟨vs,bs,cs',ks',h1,h2,h3,h4⟩:=h;refine⟨vs,bs,h3,fun r hr=>?_,fun k hk=>by rw[h2];simp[hk]⟩;rw[h1,List.getElem?_append_left (by rw[h3.len];omega),Nat.zero_mul,Nat.zero_add]
 |c::l,cs,ks,h,i+1,hi=>by
  obtain⟨vs,bs,cs',ks',h1,h2,h3,h4⟩:=h;obtain⟨vs2,bs2,q1,q2,q3⟩:=qao.get h4 i (by simpa using hi);refine⟨vs2,bs2,q1,fun r hr=>?_,fun k hk=>by rw[h2];simp[q3 k hk]⟩;rw[h1,List.getElem?_append_right (by rw[h3.len];omega),h3.len,show(i+1)*8+r-8=i*8+r by omega];exact q2 r hr
theorem qft:∀(n:Nat) (c:CT) (w:World) (base:Nat) (vs:List Value) (bs:List Nat),dpt c≤n→n≤1048576→Nrw 1048576 c→qaj w base c vs bs→Calls Tryz.prog 182 #[.agg vs.toArray] w fun e w'=>e=.returned (.int .i64 (dpt c:Nat))∧Below w.heap.size w w'
 |0,c,w,base,vs,bs,h,_,_,_=>by rw[qck] at h;omega
 |n+1,c,w,base,vs,bs,hd,hn,hw,hc=>by
  have IH:=qaa (fun c w base vs bs h1 h2 h3=>qft n c w base vs bs h1 (by omega) h2 h3);obtain⟨a3,c3,a4,c4,a5,c5,a6,c6,rfl⟩:=hc.eight;obtain⟨cs,ks,ho,hks,_⟩:=hc.kidsRow;obtain⟨hk1,hk2⟩:=hw.kids;have HD:Hid (∀k∈c.kids,dpt k≤n):=qew.1 (by have:=qck c;omega);have HW:=qaa hk2;have HE:=qaa (qck c);have Py:Hid (dpt c≤1048576):=by unfold Hid;omega
  obtain⟨ck,hck⟩:∃ck,ck=c.k:=⟨_,rfl⟩;obtain⟨cn,hcn⟩:∃cn,cn=c.nm:=⟨_,rfl⟩;obtain⟨ct,hct⟩:∃ct,ct=c.tx:=⟨_,rfl⟩;obtain⟨cp,hcp⟩:∃cp,cp=c.p:=⟨_,rfl⟩;obtain⟨n3,GA⟩:∃n,n=c.pre.length:=⟨_,rfl⟩;obtain⟨n4,Jo⟩:∃n,n=c.sp.length:=⟨_,rfl⟩;obtain⟨n5,Jp⟩:∃n,n=c.ns.length:=⟨_,rfl⟩;rw[←hck,←hcn,←hct,←hcp,←GA,←Jo,←Jp];clear hck hcn hct hcp GA Jo Jp hc hw hd hk2 hn;generalize dpt c=D at *;generalize c.kids=KS at *;obtain⟨W,hW⟩:∃W,W=w.alloc (.cells #[.int .i64 ck,.string ⟨cn.toArray⟩,.string ⟨ct.toArray⟩,.slice a3 n3 c3,.slice a4 n4 c4,.slice a5 n5 c5,.slice a6 KS.length c6,.int .i64 cp] 60):=⟨_,rfl⟩;have XW:=qaa (show Below w.heap.size w W by rw[hW];exact al Yj _);have HB:=qaa (show W.heap[w.heap.size]? =some (.cells #[.int .i64 ck,.string ⟨cn.toArray⟩,.string ⟨ct.toArray⟩,.slice a3 n3 c3,.slice a4 n4 c4,.slice a5 n5 c5,.slice a6 KS.length c6,.int .i64 cp] 60 (0,0)) by rw[hW];exact Yh w _);have HO:=qaa (own_below ho XW.out);have HK:=qaa (hks.below XW.out);have HL:=qaa hk1;clear ho hks hk1;have GR:Hid (0<KS.length→∃b,a6=some ⟨b,0,none⟩):=by
   obtain⟨av,cv,hv6,BS⟩:=qad HO.out;cases hv6;exact BS
  have c6:W.cell? ⟨w.heap.size,6,none⟩=some (.slice a6 KS.length c6):=by rw[Ye _ _ _ _ _ _ HB.out];rfl
  go_enter Tryz.func182,Tryz.ntmps182;go_upto_region 1 with fail
  rw[←hW];clear hW;go_wp2;clear c6 HB;go_loopg [3,9] (KS.length+1) (fun gg x y wr=>∃k:Nat,y=.int .i64 (k:Nat)∧x=.int .i64 (dpt.dptL (KS.take k):Nat)∧k≤KS.length∧Hid (Below W.heap.size W wr)∧KS.length-k<gg)
  case atStart=>exact⟨0,rfl,rfl,by omega,qaa Yj,by omega⟩
  case round=>
   obtain⟨k,rfl,rfl,hk1,XR,hg⟩:=hrel;have HG:=qaa hg;clear hg;by_cases hk:k<KS.length
   ·have hk':(k:Int)<(KS.length:Int):=by omega
    have ho:=own_below HO.out XR.out;have hkd:=HK.out.below XR.out;obtain⟨us,bs2,Dl,hcell,_⟩:=hkd.get k hk;obtain⟨d3,e3,d4,e4,d5,e5,d6,e6,rfl⟩:=Dl.eight;have HT:=qaa (qmp KS k hk);have HDK:=qaa (HD.out _ (List.getElem_mem hk));have Ov:=qaa (HW.out _ (List.getElem_mem hk));have Ej:=qaa Dl;clear Dl;obtain⟨kd,JZ⟩:∃kd,kd=KS[k]:=⟨_,rfl⟩;rw[←JZ] at HT HDK Ov Ej hcell;clear JZ hkd;obtain⟨b,rfl⟩:∃b,a6=some ⟨b,0,none⟩:=GR.out (by omega);have hcl:∀r,r<8→wr.cell? ⟨b,k*8+r,none⟩=[.int .i64 kd.k,.string ⟨kd.nm.toArray⟩,.string ⟨kd.tx.toArray⟩,.slice d3 kd.pre.length e3,.slice d4 kd.sp.length e4,.slice d5 kd.ns.length e5,.slice d6 kd.kids.length e6,.int .i64 kd.p][r]? :=fun r hr=>by
     rw[World.ownsRow.cellAt ho (k*8+r) (by omega),hcell r hr]
    have q0:=hcl 0 (by omega);have q1:=hcl 1 (by omega);have q2:=hcl 2 (by omega);have q3:=hcl 3 (by omega);have q4:=hcl 4 (by omega);have q5:=hcl 5 (by omega);have q6:=hcl 6 (by omega);have q7:=hcl 7 (by omega);simp only[List.getElem?_cons_zero,List.getElem?_cons_succ,Nat.add_zero] at q0 q1 q2 q3 q4 q5 q6 q7;clear hcl hcell ho;have Bg:=qaa (Yh wr (.cells #[.int .i64 kd.k,.string ⟨kd.nm.toArray⟩,.string ⟨kd.tx.toArray⟩,.slice d3 kd.pre.length e3,.slice d4 kd.sp.length e4,.slice d5 kd.ns.length e5,.slice d6 kd.kids.length e6,.int .i64 kd.p] 60));have XK:Hid (Below wr.heap.size wr (wr.alloc (.cells #[.int .i64 kd.k,.string ⟨kd.nm.toArray⟩,.string ⟨kd.tx.toArray⟩,.slice d3 kd.pre.length e3,.slice d4 kd.sp.length e4,.slice d5 kd.ns.length e5,.slice d6 kd.kids.length e6,.int .i64 kd.p] 60))):=al Yj _;have JL:=qaa (IH.out kd (wr.alloc (.cells #[.int .i64 kd.k,.string ⟨kd.nm.toArray⟩,.string ⟨kd.tx.toArray⟩,.slice d3 kd.pre.length e3,.slice d4 kd.sp.length e4,.slice d5 kd.ns.length e5,.slice d6 kd.kids.length e6,.int .i64 kd.p] 60)) base _ bs2 HDK.out Ov.out (Ej.out.below XK.out));go_upto_region 5 with fail
    clear q0 q1 q2 q3 q4 q5 q6 q7;generalize wr.alloc (.cells #[.int .i64 kd.k,.string ⟨kd.nm.toArray⟩,.string ⟨kd.tx.toArray⟩,.slice d3 kd.pre.length e3,.slice d4 kd.sp.length e4,.slice d5 kd.ns.length e5,.slice d6 kd.kids.length e6,.int .i64 kd.p] 60)=wk at *;obtain⟨q0,q1,q2,q3,q4,q5,q6,q7⟩:=ld8 Bg.out;have Pz:=qaa (bt XR.out XK.out Yi);generalize dpt kd=dk at *;have La:Hid (max ((dpt.dptL (KS.take k):Nat):Int) ((dk:Nat):Int)=((dpt.dptL (KS.take (k+1)):Nat):Int)):=by unfold Hid;rw[HT.out];omega
    generalize dpt.dptL (KS.take k)=dd at *;have fw:IntKind.i64.wrap ((k:Int)+1)=((k+1:Nat):Int):=by have:=HL.out;simp[IntKind.wrap,IntKind.bits,IntKind.signed];omega
    go_wp2_with (go_at_call 182;refine JL.out.mono ?_;rintro e w4 ⟨rfl,x4⟩;have X4:=qaa (bt Pz.out x4 Yi);clear x4);go_roundg (KS.length-(k+1)+1)
    case measure=>have:=HG.out;omega
    case rel=>exact⟨k+1,by first|rfl|(rw[show wrap64 ((k:Int)+1)=((k+1:Nat):Int) from fw]),by rw[La.out],by omega,X4,by omega⟩
   ·have hk':¬(k:Int)<(KS.length:Int):=by omega
    obtain rfl:k=KS.length:=by omega
    rw[List.take_length];have EO:Hid (dpt.dptL KS+1=D):=HE.out.symm;have fw:IntKind.i64.wrap (((dpt.dptL KS:Nat):Int)+1)=((dpt.dptL KS:Nat):Int)+1:=by have:=Py.out;have:=EO.out;simp[IntKind.wrap,IntKind.bits,IntKind.signed];omega
    go_wp2;go_ret;exact⟨by rw[←EO.out];rfl,bt XW.out XR.out Yi⟩
end Go.Proofs.YtlmhofjiobmodaaGreatDoor

