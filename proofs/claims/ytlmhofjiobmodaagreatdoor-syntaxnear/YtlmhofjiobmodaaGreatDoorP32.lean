/-
  endPrefix, endRun of a run of digits by their contracts. Conditions: as endNumber's.
-/
import Derived.Test.YtlmhofjiobmodaaGreatDoorP21
import Derived.Test.YtlmhofjiobmodaaGreatDoorP31
import Derived.Test.YtlmhofjiobmodaaGreatDoorP05
set_option maxRecDepth 100000
set_option maxHeartbeats 16000000
namespace Go.Proofs.YtlmhofjiobmodaaGreatDoor
open Go.RowKit Go.Lib
def qdn (x:SS) (run:By):Int×SS:=match qdb run with|some (a,k)=>(0,{ x with tk:=x.tk++[⟨5,[],0,a,k,x.fr⟩] })|none=>(81,x)
def qav (x:SS) (run:By):Int×SS:=if 46∈run∨47∈run then qdn x run else qch x run
section
variable {w:World} {base p:Nat} {s:By} {x:SS}
theorem qhk (h:ScA w base p s x) (run:By) (hrl:run.length≤4294967296) (hb:base≤w.heap.size) (hl:x.tk.length≤4294967296):
 Calls Tryz.prog 99 #[.pointer (some ⟨p,0,none⟩),.string ⟨run.toArray⟩] w fun e w'=>ScE w base p s (qdn x run) e w':=by
 obtain⟨tv,ad,bv,h⟩:=h;have HH:=qaa h;have HP:=qaa (qf1 run (by omega) w);clear h;cases JP:qdb run with
 |none=>
  have HM:Hid (qdn x run=(81,x)):=by unfold Hid qdn;rw[JP]
  unfold qer qes qgi at HP;rw[JP] at HP;simp only[Option.isSome_none,Bool.false_eq_true,if_false] at HP;clear JP;generalize ((Option.getD none (0,0):Nat×Nat).1:Int)=A at HP;generalize ((Option.getD none (0,0):Nat×Nat).2:Int)=B at HP;go_enter Tryz.func99,Tryz.ntmps99;go_wp2_with (go_at_call 131;refine HP.out.mono ?_;rintro e w1 ⟨rfl,x1⟩;have X1:=qaa x1;clear x1);go_ret;rw[HM.out];have X2:=al X1.out (.cells #[.int .i64 A,.int .i64 B] 47);exact⟨rfl,⟨_,_,_,HH.out.below X2⟩,KpT.of_below X2,X2.size⟩
 |some ab=>
  obtain⟨a,b⟩:=ab;have HM:Hid (qdn x run=(0,{ x with tk:=x.tk++[⟨5,[],0,a,b,x.fr⟩] })):=by unfold Hid qdn;rw[JP]
  unfold qer qes qgi at HP;rw[JP] at HP;simp only[Option.isSome_some,if_true,Option.getD_some] at HP;clear JP;have HA:=qaa (fun(W:World) (y:Below w.heap.size w W)=>(HH.out.below y).add ⟨5,[],0,a,b,0⟩ hl (Nat.le_trans hb y.size));unfold tkV at HA;go_enter Tryz.func99,Tryz.ntmps99;go_wp2_with (first|(go_at_call 131;refine HP.out.mono ?_;rintro e w1 ⟨rfl,x1⟩;have X1:=qaa (al x1 (.cells #[.int .i64 a,.int .i64 b] 47));have HA1:=qaa (HA.out _ X1.out);clear x1)|(go_at_call 64;refine HA1.out.mono ?_;rintro e w2 ⟨rfl,hA,hK,hS⟩;have HA2:=qaa hA;have Bn:=qaa hK;have HS2:=qaa hS;clear hA hK hS));go_ret;rw[HM.out];exact⟨rfl,HA2.out,(KpT.of_below X1.out).trans Bn.out,Nat.le_trans X1.out.size HS2.out⟩
theorem qrl (run:By):containsAny run [46,47]=decide (46∈run∨47∈run):=by
 unfold containsAny
 congr 1
 apply propext
 induction run with
 |nil=>simp[indexAny]
 |cons b l ih=>
  have hg:=indexAny_ge [46,47] l;unfold indexAny;by_cases hb:b=46∨b=47
  ·rw[if_pos (by rcases hb with rfl|rfl<;>decide)]
   rcases hb with rfl|rfl<;>simp
  ·have hb1:¬b=46:=fun e=>hb (.inl e)
   have hb2:¬b=47:=fun e=>hb (.inr e)
   rw[if_neg (by simp[hb1,hb2])];have e1:(46∈b::l∨47∈b::l)↔(46∈l∨47∈l):=by
    simp only[List.mem_cons];constructor
    ·rintro((h|h)|(h|h))
     ·exact absurd h.symm hb1
     ·exact .inl h
     ·exact absurd h.symm hb2
     ·exact .inr h
    ·rintro(h|h)
     ·exact .inl (.inr h)
     ·exact .inr (.inr h)
   rw[e1,←ih];by_cases hi:indexAny l [46,47]= -1
   ·rw[hi]
    decide
   ·rw[if_neg (by simpa using hi)]
    omega
theorem qgq (h:ScA w base p s x) (q:Int) (h4:x.st=4) (h0:0≤x.fr) (h1:x.fr<q) (hq:q≤s.length) (hs:s.length≤8000) (hgo:∀c∈qbq s x.fr.toNat q.toNat,goB 4 (bI c)=true) (hev:qfx base w) (hb:base≤w.heap.size) (hl:x.tk.length≤4294967296):
 Calls Tryz.prog 62 #[.pointer (some ⟨p,0,none⟩),.int .i64 q] w fun e w'=>ScE w base p s (qav x (qbq s x.fr.toNat q.toNat)) e w':=by
 obtain⟨tv,ad,bv,h⟩:=h;have hsz:=qa5 s;have HE:=qaa (qfq s x.fr.toNat q.toNat);obtain⟨run,hrun⟩:∃run,Hid (run=qbq s x.fr.toNat q.toNat):=⟨_,rfl⟩;rw[←hrun.out] at HE hgo ⊢;have hlen:run.length=q.toNat-x.fr.toNat:=by rw[hrun.out];unfold qbq;simp;omega
 have hrl:run.length≤8000:=by omega
 have hr:run≠[]:=by intro e;rw[e] at hlen;simp at hlen;omega
 have Bu:=qaa (fun W=>qh3 run W (by omega));have hgo':∀c∈run,(48≤c.toNat∧c.toNat≤57)∨c=46∨c=47:=fun c hc=>by
  have:=hgo c hc;unfold goB dgB bI at this;rw[if_neg (by decide),if_neg (by decide)] at this;simp only[Bool.or_eq_true,Bool.and_eq_true,decide_eq_true_eq] at this;rcases this with(h|h)|h
  ·exact .inl (by omega)
  ·exact .inr (.inl (UInt8.toNat_inj.1 (by show c.toNat=46;omega)))
  ·exact .inr (.inr (UInt8.toNat_inj.1 (by show c.toNat=47;omega)))
 have has:∀(j:Nat) b,(⟨run.toArray⟩:ByteArray).data.toList[j]? =some b→b.toNat<128:=fun j b hj=>by
  have hm:b∈run:=List.mem_of_getElem? hj;rcases hgo' b hm with h|rfl|rfl
  ·omega
  ·decide
  ·decide
 have NS:Hid (∀W,Calls Tryz.prog 98 #[.string ⟨run.toArray⟩,.string ⟨#[46,47]⟩] W fun e w'=>e=.returned (.bool (decide (46∈run∨47∈run)))∧Below W.heap.size W w'):=fun W=>by
  refine(Tryz.strings_ContainsAny_laid ⟨run.toArray⟩ ⟨#[46,47]⟩ W (by rw[qa5];omega) (by decide) has (fun j b hj=>?_)).mono ?_
  ·have hm:b∈[46,47]:=List.mem_of_getElem? hj
   simp at hm;rcases hm with rfl|rfl<;>decide
  ·rintro e w' ⟨rfl,x1⟩
   exact⟨by rw[←qrl],x1⟩
 have HC:Hid (∀V,Below w.heap.size w V→ScA V base p s x∧V.cell? ⟨p,0,none⟩=some (.string ⟨s.toArray⟩)∧V.cell? ⟨p,2,none⟩=some (.int .i64 x.st)∧V.cell? ⟨p,3,none⟩=some (.int .i64 x.fr)):=fun V y=>by
  have:=h.below y;obtain⟨c0,c2,c3,_⟩:=this.cells;exact⟨⟨_,_,_,this⟩,c0,c2,c3⟩
 obtain⟨-,c0,c2,c3⟩:=HC.out w Yj;have HX:Hid (∀V,Below w.heap.size w V→Calls Tryz.prog (if 46∈run∨47∈run then 99 else 100) #[.pointer (some ⟨p,0,none⟩),.string ⟨run.toArray⟩] V fun e w'=>ScE V base p s (qav x run) e w'):=fun V y=>by
  unfold qav;by_cases hc:46∈run∨47∈run
  ·rw[if_pos hc,if_pos hc]
   exact qhk (HC.out V y).1 run (by omega) (Nat.le_trans hb y.size) hl
  ·rw[if_neg hc,if_neg hc]
   refine qhg (HC.out V y).1 run hr (fun c hcm=>?_) (by omega) (hev.below (y.mono hb)) (Nat.le_trans hb y.size) hl;rcases hgo' c hcm with h|rfl|rfl
   ·exact h
   ·exact absurd (.inl hcm) hc
   ·exact absurd (.inr hcm) hc
 clear h hgo hgo' has hr hlen hev;rw[h4] at c2;have h1':x.fr≤q:=by omega
 by_cases hc:46∈run∨47∈run
 all_goals
  first|rw[if_pos hc] at HX|rw[if_neg hc] at HX
  have NT:∀b,decide (46∈run∨47∈run)=b→Hid (∀W,Calls Tryz.prog 98 #[.string ⟨run.toArray⟩,.string ⟨#[46,47]⟩] W fun e w'=>e=.returned (.bool b)∧Below W.heap.size W w'):=fun b e=>by rw[e] at NS;exact NS
  first|(have Mf:=NT true (decide_eq_true hc))|(have Mf:=NT false (decide_eq_false hc))
  clear NT NS hc;go_enter Tryz.func62,Tryz.ntmps62;go_upto_region 1 with fail
  go_region_with (go_at_call 95;rw[HE.out];refine(Bu.out _).mono ?_;rintro e w1 ⟨rfl,x1⟩;have X1:=qaa (bt (Below.drew (Below.refl w.heap.size w)) x1 Yi);clear x1)
  all_goals
   obtain⟨-,d0,d2,d3⟩:=HC.out w1 X1.out;rw[h4] at d2;clear c0 c2 c3;go_wp2_with (first|(go_at_call 98;refine(Mf.out _).mono ?_;rintro e w2 ⟨rfl,x2⟩;have X2:=qaa (bt X1.out x2 Yi);have Bl:=qaa (HX.out w2 X2.out);clear x2)|(go_at_call 99;refine Bl.out.mono ?_;rintro e w3 ⟨rfl,hA,hK,hS⟩;have Ey:=qaa hA;have Db:=qaa hK;have EH:=qaa hS;clear hA hK hS)|(go_at_call 100;refine Bl.out.mono ?_;rintro e w3 ⟨rfl,hA,hK,hS⟩;have Ey:=qaa hA;have Db:=qaa hK;have EH:=qaa hS;clear hA hK hS));go_ret;exact⟨rfl,Ey.out,(KpT.of_below X2.out).trans Db.out,Nat.le_trans X2.out.size EH.out⟩
end
def qap (s:By) (x:SS) (q r:Int):Int×SS:=
 if x.st=4 then
  if goB 4 r=true then(0,x)
  else if (qav x (qbq s x.fr.toNat q.toNat)).1=0 then qag (qav x (qbq s x.fr.toNat q.toNat)).2 q r else qav x (qbq s x.fr.toNat q.toNat)
 else qby s x q r
def qde (s:By) (x:SS):Int×SS:=
 if x.st=4 then
  if (qav x (qbq s x.fr.toNat s.length)).1=0 then(0,{ (qav x (qbq s x.fr.toNat s.length)).2 with fr:=s.length,tk:=(qav x (qbq s x.fr.toNat s.length)).2.tk++[⟨8,[],0,0,0,s.length⟩] }) else qav x (qbq s x.fr.toNat s.length)
 else qh4 s x
theorem qee (x:SS) (run:By):((qav x run).1=0∧(qav x run).2.st=x.st∧(qav x run).2.mn=x.mn∧(qav x run).2.fr=x.fr∧(qav x run).2.tk.length=x.tk.length+1)∨qav x run=(81,x):=by
 unfold qav;split
 ·unfold qdn
  cases qdb run with
  |none=>exact .inr rfl
  |some ab=>exact .inl ⟨rfl,rfl,rfl,rfl,by simp⟩
 ·unfold qch
  cases qdy run with
  |none=>exact .inr rfl
  |some u=>exact .inl ⟨rfl,rfl,rfl,rfl,by simp⟩
section
variable {w:World} {base p:Nat} {s:By} {x:SS}
theorem qjg (h:ScA w base p s x) (q r:Int) (h0:0≤r) (h4:x.st≠4) (hf0:0≤x.fr) (hf1:x.fr≤q) (hq:q≤s.length) (hs:s.length≤4294967296) (hb:base≤w.heap.size) (hl:x.tk.length≤4294967295) (hm:x.mn.length≤4294967296):
 Calls Tryz.prog 37 #[.pointer (some ⟨p,0,none⟩),.int .i64 q,.int .i32 r] w fun e w'=>ScE w base p s (qby s x q r) e w':=by
 have HA:=qaa h;obtain⟨tv,ad,bv,h⟩:=h;obtain⟨-,c2,-,f2,-⟩:=h.cells;have HH:=qaa h;clear h;by_cases e1:x.st=1
 ·rw[e1] at c2
  by_cases h10:r=10
  ·subst h10
   have HM:Hid (qby s x q 10=(0,{ x with st:=0 })):=by unfold Hid qby;rw[if_pos e1,if_pos rfl]
   go_enter Tryz.func37,Tryz.ntmps37;go_wp2;go_ret;rw[HM.out];obtain⟨s4,k4⟩:=HH.out.setSt 0;exact⟨rfl,⟨_,_,_,s4⟩,k4,k4.size⟩
  ·have e10:(r==10)=false:=by simp[h10]
   have HM:Hid (qby s x q r=(0,x)):=by unfold Hid qby;rw[if_pos e1,if_neg h10]
   go_enter Tryz.func37,Tryz.ntmps37;go_wp2;go_ret;rw[HM.out];exact⟨rfl,HA.out,KpT.refl _ _ _,Nat.le_refl _⟩
 ·have g1:(x.st==1)=false:=by simp[e1]
  by_cases e5:x.st=5
  ·have HM:Hid (qby s x q r=qaz x r):=by unfold Hid qby;rw[if_neg e1,if_pos e5]
   rw[e5] at c2;have HX:=qaa (qh2 HA.out r hb hm (by omega));clear g1;go_enter Tryz.func37,Tryz.ntmps37;go_wp2_with (go_at_call 59;refine HX.out.mono ?_;rintro e w2 ⟨rfl,hA,hK,hS⟩;have HA2:=qaa hA;have Bn:=qaa hK;have HS2:=qaa hS;clear hA hK hS);go_ret;rw[HM.out];exact⟨rfl,HA2.out,Bn.out,HS2.out⟩
  ·have g5:(x.st==5)=false:=by simp[e5]
   by_cases e6:x.st=6
   ·have HM:Hid (qby s x q r=qbe x r):=by unfold Hid qby;rw[if_neg e1,if_neg e5,if_pos e6]
    rw[e6] at c2;have HX:=qaa (qi0 HA.out r hb hm);clear g1 g5;go_enter Tryz.func37,Tryz.ntmps37;go_wp2_with (go_at_call 60;refine HX.out.mono ?_;rintro e w2 ⟨rfl,hA,hK,hS⟩;have HA2:=qaa hA;have Bn:=qaa hK;have HS2:=qaa hS;clear hA hK hS);go_ret;rw[HM.out];exact⟨rfl,HA2.out,Bn.out,HS2.out⟩
   ·have g6:(x.st==6)=false:=by simp[e6]
    by_cases e23:x.st=2∨x.st=3
    ·have HG:=qaa (fun W=>qdt x.st r W)
     cases hg:goB x.st r with
     |true=>
      have HM:Hid (qby s x q r=(0,x)):=by unfold Hid qby;rw[if_neg e1,if_neg e5,if_neg e6,if_pos e23,if_pos hg]
      rw[hg] at HG;clear hg;rcases e23 with e2|e2
      all_goals
       rw[e2] at c2 HG;clear g1 g5 g6;go_enter Tryz.func37,Tryz.ntmps37;go_wp2_with (go_at_call 61;refine(HG.out _).mono ?_;rintro e wz ⟨rfl,Ba⟩;have Ba:=Ba.symm;subst Ba);go_ret;rw[HM.out];exact⟨rfl,HA.out,KpT.refl _ _ _,Nat.le_refl _⟩
     |false=>
      have HM:Hid (qby s x q r=if (qan s x q).1=0 then qag (qan s x q).2 q r else qan s x q):=by unfold Hid qby;rw[if_neg e1,if_neg e5,if_neg e6,if_pos e23,if_neg (by simp[hg])]
      rw[hg] at HG;have HX:=qaa (qgm HA.out q e23 hf0 hf1 hq hs hb (by omega));obtain⟨ht,hy⟩:=qfr s x q;clear hg;generalize qan s x q=y at *;obtain⟨y1,y2⟩:=y;simp only at HM HX ht hy;have HB:Hid (∀W,ScA W base p s y2→base≤W.heap.size→Calls Tryz.prog 63 #[.pointer (some ⟨p,0,none⟩),.int .i64 q,.int .i32 r] W fun e w'=>ScE W base p s (qag y2 q r) e w'):=fun W hW hz=>qfw hW q r h0 hz (by omega)
      rcases hy with rfl|rfl
      ·rw[if_pos rfl] at HM
       rcases e23 with e2|e2
       all_goals
        rw[e2] at c2 HG;clear g1 g5 g6;go_enter Tryz.func37,Tryz.ntmps37;go_wp2_with (first|(go_at_call 61;refine(HG.out _).mono ?_;rintro e wz ⟨rfl,Ba⟩;have Ba:=Ba.symm;subst Ba)|(go_at_call 62;refine HX.out.mono ?_;rintro e w2 ⟨rfl,hA,hK,hS⟩;have HB2:=qaa (HB.out w2 hA (by omega));have Bn:=qaa hK;have HS2:=qaa hS;clear hA hK hS)|(go_at_call 63;refine HB2.out.mono ?_;rintro e w3 ⟨rfl,hA,hK,hS⟩;have Ey:=qaa hA;have Db:=qaa hK;have EH:=qaa hS;clear hA hK hS));go_ret;rw[HM.out];exact⟨rfl,Ey.out,Bn.out.trans Db.out,Nat.le_trans HS2.out EH.out⟩
      ·rw[if_neg (by decide)] at HM
       rcases e23 with e2|e2
       all_goals
        rw[e2] at c2 HG;clear g1 g5 g6;go_enter Tryz.func37,Tryz.ntmps37;go_wp2_with (first|(go_at_call 61;refine(HG.out _).mono ?_;rintro e wz ⟨rfl,Ba⟩;have Ba:=Ba.symm;subst Ba)|(go_at_call 62;refine HX.out.mono ?_;rintro e w2 ⟨rfl,hA,hK,hS⟩;have HA2:=qaa hA;have Bn:=qaa hK;have HS2:=qaa hS;clear hA hK hS));go_ret;rw[HM.out];exact⟨rfl,HA2.out,Bn.out,HS2.out⟩
    ·have HM:Hid (qby s x q r=qag x q r):=by unfold Hid qby;rw[if_neg e1,if_neg e5,if_neg e6,if_neg e23]
     have g2:(x.st==2)=false:=by simp;omega
     have g3:(x.st==3)=false:=by simp;omega
     have g4:(x.st==4)=false:=by simp[h4]
     have n1:¬x.st=2:=by omega
     have n2:¬x.st=3:=by omega
     have HX:=qaa (qfw HA.out q r h0 hb (by omega));go_enter Tryz.func37,Tryz.ntmps37;go_wp2_with (go_at_call 63;refine HX.out.mono ?_;rintro e w2 ⟨rfl,hA,hK,hS⟩;have HA2:=qaa hA;have Bn:=qaa hK;have HS2:=qaa hS;clear hA hK hS);go_ret;rw[HM.out];exact⟨rfl,HA2.out,Bn.out,HS2.out⟩
theorem qnx (h:ScA w base p s x) (q r:Int) (h0:0≤r) (h4:x.st=4) (hf0:0≤x.fr) (hf1:x.fr<q) (hq:q≤s.length) (hs:s.length≤8000) (hgo:∀c∈qbq s x.fr.toNat q.toNat,goB 4 (bI c)=true) (hev:qfx base w) (hb:base≤w.heap.size) (hl:x.tk.length≤4294967295):
 Calls Tryz.prog 37 #[.pointer (some ⟨p,0,none⟩),.int .i64 q,.int .i32 r] w fun e w'=>ScE w base p s (qap s x q r) e w':=by
 have HA:=qaa h;obtain⟨tv,ad,bv,h⟩:=h;obtain⟨-,c2,-,f2,-⟩:=h.cells;clear h;rw[h4] at c2;have HG:=qaa (fun W=>qdt 4 r W);cases hg:goB 4 r with
 |true=>
  have HM:Hid (qap s x q r=(0,x)):=by unfold Hid qap;rw[if_pos h4,if_pos hg]
  rw[hg] at HG;clear hg;go_enter Tryz.func37,Tryz.ntmps37;go_wp2_with (go_at_call 61;refine(HG.out _).mono ?_;rintro e wz ⟨rfl,Ba⟩;have Ba:=Ba.symm;subst Ba);go_ret;rw[HM.out];exact⟨rfl,HA.out,KpT.refl _ _ _,Nat.le_refl _⟩
 |false=>
  have HM:Hid (qap s x q r=if (qav x (qbq s x.fr.toNat q.toNat)).1=0 then qag (qav x (qbq s x.fr.toNat q.toNat)).2 q r else qav x (qbq s x.fr.toNat q.toNat)):=by unfold Hid qap;rw[if_pos h4,if_neg (by simp[hg])]
  rw[hg] at HG;have HX:=qaa (qgq HA.out q h4 hf0 hf1 hq hs hgo hev hb (by omega));have ht:=qee x (qbq s x.fr.toNat q.toNat);clear hg hgo;generalize qav x (qbq s x.fr.toNat q.toNat)=y at *;obtain⟨y1,y2⟩:=y;simp only at HM HX ht;rcases ht with⟨rfl,-,-,-,ht⟩|ht
  ·have HB:Hid (∀W,ScA W base p s y2→base≤W.heap.size→Calls Tryz.prog 63 #[.pointer (some ⟨p,0,none⟩),.int .i64 q,.int .i32 r] W fun e w'=>ScE W base p s (qag y2 q r) e w'):=fun W hW hz=>qfw hW q r h0 hz (by omega)
   rw[if_pos rfl] at HM;go_enter Tryz.func37,Tryz.ntmps37;go_wp2_with (first|(go_at_call 61;refine(HG.out _).mono ?_;rintro e wz ⟨rfl,Ba⟩;have Ba:=Ba.symm;subst Ba)|(go_at_call 62;refine HX.out.mono ?_;rintro e w2 ⟨rfl,hA,hK,hS⟩;have HB2:=qaa (HB.out w2 hA (by omega));have Bn:=qaa hK;have HS2:=qaa hS;clear hA hK hS)|(go_at_call 63;refine HB2.out.mono ?_;rintro e w3 ⟨rfl,hA,hK,hS⟩;have Ey:=qaa hA;have Db:=qaa hK;have EH:=qaa hS;clear hA hK hS));go_ret;rw[HM.out];exact⟨rfl,Ey.out,Bn.out.trans Db.out,Nat.le_trans HS2.out EH.out⟩
  ·obtain⟨rfl,hy2⟩:=Prod.mk.inj ht
   have HY:=qaa hy2;clear ht hy2;rw[if_neg (by decide)] at HM;go_enter Tryz.func37,Tryz.ntmps37;go_wp2_with (first|(go_at_call 61;refine(HG.out _).mono ?_;rintro e wz ⟨rfl,Ba⟩;have Ba:=Ba.symm;subst Ba)|(go_at_call 62;refine HX.out.mono ?_;rintro e w2 ⟨rfl,hA,hK,hS⟩;have HA2:=qaa hA;have Bn:=qaa hK;have HS2:=qaa hS;clear hA hK hS));go_ret;rw[HM.out];exact⟨rfl,HA2.out,Bn.out,HS2.out⟩
end
section
variable {w:World} {base p:Nat} {s:By} {x:SS}
theorem qpy (h:ScA w base p s x) (h4:x.st=4) (hf0:0≤x.fr) (hf1:x.fr<s.length) (hs:s.length≤8000) (hgo:∀c∈qbq s x.fr.toNat s.length,goB 4 (bI c)=true) (hev:qfx base w) (hb:base≤w.heap.size) (hl:x.tk.length≤4294967295):
 Calls Tryz.prog 38 #[.pointer (some ⟨p,0,none⟩)] w fun e w'=>ScE w base p s (qde s x) e w':=by
 have HA:=qaa h;obtain⟨tv,ad,bv,h⟩:=h;obtain⟨c0,c2,-,f2,-⟩:=h.cells;have hsz:=qa5 s;clear h;rw[h4] at c2;have Jb:Hid (∀(W:World) (y:SS),ScA W base p s y→base≤W.heap.size→y.tk.length≤4294967296→∃tv ad bv,Sc W base p s y tv ad bv∧W.cell? ⟨p,0,none⟩=some (.string ⟨s.toArray⟩)∧W.frozen? ⟨p,3,none⟩=false∧(∃z,W.cell? ⟨p,3,none⟩=some z)∧KpT base p W (W.setCell ⟨p,3,none⟩ (.int .i64 s.length))∧Calls Tryz.prog 64 #[.pointer (some ⟨p,0,none⟩),.agg #[.int .i64 8,.string ⟨#[]⟩,.int .i64 0,.int .i64 0,.int .i64 0,.int .i64 0]] (W.setCell ⟨p,3,none⟩ (.int .i64 s.length)) fun e w'=>e=.returned (.tuple #[])∧ScA w' base p s { y with fr:=s.length,tk:=y.tk++[⟨8,[],0,0,0,s.length⟩] }∧KpT base p (W.setCell ⟨p,3,none⟩ (.int .i64 s.length)) w'∧(W.setCell ⟨p,3,none⟩ (.int .i64 s.length)).heap.size≤w'.heap.size):=fun W y hy hz ht=>by
  obtain⟨tv,ad,bv,hy⟩:=hy;obtain⟨s1,k1⟩:=hy.setFr s.length;obtain⟨d0,-,d3,-,f3⟩:=hy.cells;refine⟨tv,ad,bv,hy,d0,f3,⟨_,d3⟩,k1,?_⟩;exact s1.add ⟨8,[],0,0,0,0⟩ ht (by have:=k1.size;omega)
 have HM:Hid (qde s x=if (qav x (qbq s x.fr.toNat s.length)).1=0 then(0,{ (qav x (qbq s x.fr.toNat s.length)).2 with fr:=s.length,tk:=(qav x (qbq s x.fr.toNat s.length)).2.tk++[⟨8,[],0,0,0,s.length⟩] }) else qav x (qbq s x.fr.toNat s.length)):=by unfold Hid qde;rw[if_pos h4]
 have HX:=qaa (qgq HA.out (s.length:Int) h4 hf0 (by omega) (by omega) hs (by simpa using hgo) hev hb (by omega));rw[Int.toNat_natCast] at HX;have ht:=qee x (qbq s x.fr.toNat s.length);clear hgo;generalize qav x (qbq s x.fr.toNat s.length)=y at *;obtain⟨y1,y2⟩:=y;simp only at HM HX ht;rcases ht with⟨rfl,-,-,-,ht⟩|ht
 ·rw[if_pos rfl] at HM
  go_enter Tryz.func38,Tryz.ntmps38;go_wp2_with (first|(go_at_call 62;refine HX.out.mono ?_;rintro e w2 ⟨rfl,hA,hK,hS⟩;obtain⟨tv,ad,bv,hy,d0,f3,⟨z,d3⟩,k1,hc⟩:=Jb.out w2 y2 hA (by omega) (by omega);have BH:=qaa hc;have DK:=qaa k1;have Bn:=qaa hK;have HS2:=qaa hS;clear hA hK hS hy hc k1)|(go_at_call 64;refine BH.out.mono ?_;rintro e w3 ⟨rfl,hA,hK,hS⟩;have Ey:=qaa hA;have Db:=qaa hK;have EH:=qaa hS;clear hA hK hS));go_ret;rw[HM.out];exact⟨rfl,Ey.out,Bn.out.trans (DK.out.trans Db.out),Nat.le_trans HS2.out (Nat.le_trans DK.out.size EH.out)⟩
 ·obtain⟨rfl,hy2⟩:=Prod.mk.inj ht
  have HY:=qaa hy2;clear ht hy2;rw[if_neg (by decide)] at HM;go_enter Tryz.func38,Tryz.ntmps38;go_wp2_with (go_at_call 62;refine HX.out.mono ?_;rintro e w2 ⟨rfl,hA,hK,hS⟩;have HA2:=qaa hA;have Bn:=qaa hK;have HS2:=qaa hS;clear hA hK hS);go_ret;rw[HM.out];exact⟨rfl,HA2.out,Bn.out,HS2.out⟩
end
structure OkS (s:By) (i:Nat) (x:SS):Prop where
 f0:0≤x.fr
 f1:x.fr≤i
 tk:x.tk.length≤2*i
 mn:x.mn.length≤200
 dg:x.st=4→x.fr<i∧∀c∈qbq s x.fr.toNat i,goB 4 (bI c)=true
section
variable {w:World} {base p:Nat} {s:By} {x:SS}
theorem qst (h:ScA w base p s x) (i:Nat) (r:Int) (h0:0≤r) (ho:OkS s i x) (hq:i≤s.length) (hs:s.length≤8000) (hev:qfx base w) (hb:base≤w.heap.size):
 Calls Tryz.prog 37 #[.pointer (some ⟨p,0,none⟩),.int .i64 i,.int .i32 r] w fun e w'=>ScE w base p s (qap s x i r) e w':=by
 have h1:=ho.tk;have h2:=ho.mn;have h3:=ho.f1;by_cases h4:x.st=4
 ·obtain⟨d1,d2⟩:=ho.dg h4
  exact qnx h i r h0 h4 ho.f0 d1 (by omega) hs (by simpa using d2) hev hb (by omega)
 ·have e:qap s x i r=qby s x i r:=by unfold qap;rw[if_neg h4]
  rw[e];exact qjg h i r h0 h4 ho.f0 h3 (by omega) (by omega) hb (by omega) (by omega)
theorem qtx (h:ScA w base p s x) (ho:OkS s s.length x) (hs:s.length≤8000) (hev:qfx base w) (hb:base≤w.heap.size):
 Calls Tryz.prog 38 #[.pointer (some ⟨p,0,none⟩)] w fun e w'=>ScE w base p s (qde s x) e w':=by
 have h1:=ho.tk;have h3:=ho.f1;by_cases h4:x.st=4
 ·obtain⟨d1,d2⟩:=ho.dg h4
  exact qpy h h4 ho.f0 d1 hs d2 hev hb (by omega)
 ·have e:qde s x=qh4 s x:=by unfold qde;rw[if_neg h4]
  rw[e];exact qq7 h h4 ho.f0 h3 (by omega) hb (by omega)
end
theorem qhl (s:By) {f i:Nat} (hf:f≤i) (hi:i<s.length):qbq s f (i+1)=qbq s f i++[s[i]]:=by
 unfold qbq;rw[List.take_add_one,List.getElem?_eq_getElem hi,List.drop_append_of_le_length (by simp;omega)];rfl
theorem qki (s:By) (i:Nat):qbq s i i=[]:=by
 unfold qbq;rw[List.drop_eq_nil_of_le (by simp;omega)]
theorem qjh (s:By) {i:Nat} (hi:i<s.length):qbq s i (i+1)=[s[i]]:=by
 rw[qhl s (Nat.le_refl i) hi,qki];rfl
theorem OkS.next {s:By} {i:Nat} {x:SS} (h:OkS s i x) (hn:x.st≠4) {j:Nat} (hj:i≤j):OkS s j x:=
 ⟨h.f0,by have:=h.f1;omega,by have:=h.tk;omega,h.mn,fun e=>absurd e hn⟩
theorem qhm {s:By} {i:Nat} (hi:i<s.length) {y:SS} (ht:y.tk.length≤2*i+1) (hm:y.mn.length≤200) (h0:(qag y i (bI s[i])).1=0):OkS s (i+1) (qag y i (bI s[i])).2:=by
 have hf0:(0:Int)≤i:=by omega
 have hf1:(i:Int)≤((i+1:Nat):Int):=by omega
 unfold qag at h0 ⊢;split
 ·exact⟨hf0,hf1,by show y.tk.length≤_;omega,hm,fun e=>by cases e⟩
 ·split
  ·exact⟨hf0,hf1,by show y.tk.length≤_;omega,hm,fun e=>by cases e⟩
  ·split
   ·exact⟨hf0,hf1,by show y.tk.length≤_;omega,hm,fun e=>by cases e⟩
   ·split
    ·exact⟨hf0,hf1,by show y.tk.length≤_;omega,hm,fun e=>by cases e⟩
    ·split
     ·rename_i hd
      refine⟨hf0,hf1,by show y.tk.length≤_;omega,hm,fun _=>⟨by show(i:Int)<_;omega,fun c hc=>?_⟩⟩;have hc2:c∈qbq s i (i+1):=by simpa using hc
      rw[qjh s hi] at hc2;have:c=s[i]:=by simpa using hc2
      subst this;unfold goB;rw[if_neg (by decide),if_neg (by decide),hd];simp
     ·split
      ·exact⟨hf0,hf1,by show y.tk.length≤_;omega,hm,fun e=>by cases e⟩
      ·split
       ·exact⟨hf0,hf1,by show(y.tk++[_]).length≤_;simp;omega,hm,fun e=>by cases e⟩
       ·rename_i h1 h2 h3 h4 h5 h6 h7
        rw[if_neg h1,if_neg h2,if_neg h3,if_neg h4,if_neg h5,if_neg h6,if_neg h7] at h0;cases h0
theorem qny {s:By} {i:Nat} {x:SS} {r:Int} (hf0:0≤x.fr) (hf1:x.fr≤i) (ht:x.tk.length≤2*i) (hm:x.mn.length≤200) (hn:x.st≠4) (h0:(qb8 x r).1=0):OkS s (i+1) (qb8 x r).2:=by
 unfold qb8 at h0 ⊢;split
 ·rename_i h
  exact⟨hf0,by show x.fr≤_;omega,by show x.tk.length≤_;omega,by show(x.mn++[_]).length≤_;simp;omega,fun e=>absurd e hn⟩
 ·rename_i h
  rw[if_neg h] at h0;cases h0
theorem qdo (x:SS) (run:By) (a b:Int):(qal x run a b).2.mn=x.mn:=by
 unfold qal;split
 ·rfl
 ·rfl
theorem qpz {s:By} {i:Nat} (hi:i<s.length) {x:SS} (h:OkS s i x) (h0:(qap s x i (bI s[i])).1=0):OkS s (i+1) (qap s x i (bI s[i])).2:=by
 have t1:=h.tk;have t2:=h.mn;have t3:=h.f0;have t4:=h.f1;unfold qap at h0 ⊢;by_cases h4:x.st=4
 ·rw[if_pos h4] at h0 ⊢
  obtain⟨d1,d2⟩:=h.dg h4;by_cases hg:goB 4 (bI s[i])=true
  ·rw[if_pos hg]
   refine⟨t3,by show x.fr≤_;omega,by show x.tk.length≤_;omega,t2,fun _=>⟨by show x.fr<((i+1:Nat):Int);omega,fun c hc=>?_⟩⟩;rw[qhl s (by have:x.fr.toNat≤i:=(by omega);exact this) hi] at hc;rcases List.mem_append.1 hc with hc|hc
   ·exact d2 c hc
   ·have:c=s[i]:=by simpa using hc
    rw[this];exact hg
  ·rw[if_neg hg] at h0 ⊢
   rcases qee x (qbq s x.fr.toNat (i:Int).toNat) with⟨e1,e2,e3,e4,e5⟩|e1
   ·rw[if_pos e1] at h0 ⊢
    exact qhm hi (by omega) (by rw[e3];exact t2) h0
   ·rw[e1,if_neg (by show ¬(81:Int)=0;decide)] at h0
    cases h0
 ·rw[if_neg h4] at h0 ⊢
  unfold qby at h0 ⊢;split
  ·rename_i e1
   split
   ·exact⟨t3,by show x.fr≤_;omega,by show x.tk.length≤_;omega,t2,fun e=>by cases e⟩
   ·exact h.next h4 (by omega)
  ·rename_i e1
   rw[if_neg e1] at h0;split
   ·rename_i e5
    rw[if_pos e5] at h0;unfold qaz at h0 ⊢;split
    ·exact⟨t3,by show x.fr≤_;omega,by show(x.tk++[_]).length≤_;simp;omega,by show([]:By).length≤_;simp,fun e=>by cases e⟩
    ·rename_i n1
     rw[if_neg n1] at h0;split
     ·exact⟨t3,by show x.fr≤_;omega,by show x.tk.length≤_;omega,t2,fun e=>by cases e⟩
     ·rename_i n2
      rw[if_neg n2] at h0;exact qny t3 t4 t1 t2 h4 h0
   ·rename_i e5
    rw[if_neg e5] at h0;split
    ·rename_i e6
     rw[if_pos e6] at h0;unfold qbe at h0 ⊢;split
     ·rename_i n1
      rw[if_pos n1] at h0;exact qny (x:={ x with st:=5 }) t3 t4 t1 t2 (by show(5:Int)≠4;decide) h0
     ·rename_i n1
      rw[if_neg n1] at h0;cases h0
    ·rename_i e6
     rw[if_neg e6] at h0;split
     ·rename_i e23
      rw[if_pos e23] at h0;split
      ·exact h.next h4 (by omega)
      ·rename_i hg
       rw[if_neg hg] at h0;obtain⟨ht,hy⟩:=qfr s x i;split
       ·rename_i he
        rw[if_pos he] at h0;refine qhm hi (by omega) ?_ h0;have:(qan s x i).2.mn=x.mn:=by
         unfold qan;split
         ·exact qdo _ _ _ _
         ·exact qdo _ _ _ _
        rw[this];exact t2
       ·rename_i he
        rw[if_neg he] at h0;exact absurd h0 he
     ·rename_i e23
      rw[if_neg e23] at h0;exact qhm hi (by omega) t2 h0
theorem qef (s:By) (x:SS) (q:Int) {r:Int} (h:128≤r):qap s x q r=if x.st=1 then(0,x) else qap s x q 128:=by
 have hg:∀k,¬goB k r=true:=fun k=>by rw[qfj h];decide
 have hg':∀k,¬goB k 128=true:=fun k=>by rw[qfj (by decide)];decide
 have ht:∀y,qb8 y r=qb8 y 128:=fun y=>by
  unfold qb8;rw[if_neg (by rw[qjc h];simp),if_neg (by rw[qjc (by decide)];simp)]
 have hb:∀y,qag y q r=qag y q 128:=fun y=>by rw[qda y q h,qda y q (by decide)]
 split
 ·rename_i e1
  unfold qap qby;rw[if_neg (by omega),if_pos e1,if_neg (by omega)]
 ·rename_i e1
  unfold qap qby qaz qbe;simp only[if_neg (hg _),if_neg (hg' _),hb,ht,if_neg e1,qjd h,qjd (show(128:Int)≤128 by decide),if_neg (show ¬r=34 by omega),if_neg (show ¬r=92 by omega),if_neg (show ¬(128:Int)=34 by decide),if_neg (show ¬(128:Int)=92 by decide)]
theorem qp0 (s:By) (x:SS) (q:Int) (h:x.st≠1):(qap s x q 128).1≠0:=by
 have hg:∀k,¬goB k 128=true:=fun k=>by rw[qfj (by decide)];decide
 have ht:∀y,(qb8 y 128).1=83:=fun y=>by
  unfold qb8;rw[if_neg (by rw[qjc (by decide)];simp)]
 have hb:∀y,(qag y q 128).1=80:=fun y=>by rw[qda y q (by decide)]
 unfold qap qby qaz qbe;simp only[if_neg (hg _),if_neg h,qjd (show(128:Int)≤128 by decide),if_neg (show ¬(128:Int)=34 by decide),if_neg (show ¬(128:Int)=92 by decide)];split
 ·split
  ·rw[hb];decide
  ·assumption
 ·split
  ·rw[ht];decide
  ·split
   ·show(83:Int)≠0
    decide
   ·split
    ·split
     ·rw[hb];decide
     ·assumption
    ·rw[hb];decide
def qat (s:By):Nat→SS→By→Int×SS
 |_,x,[]=>(0,x)
 |i,x,b::t=>if (qap s x i (bI b)).1=0 then qat s (i+1) (qap s x i (bI b)).2 t else qap s x i (bI b)
theorem qii (s:By) (x:SS) (h1:x.st=1):∀(k i:Nat),i+k≤s.length→(∀j (hj:j<s.length),i≤j→j<i+k→128≤s[j].toNat)→qat s i x (s.drop i)=qat s (i+k) x (s.drop (i+k))
 |0,i,_,_=>rfl
 |k+1,i,hk,hb=>by
  have hi:i<s.length:=by omega
  have hd:s.drop i=s[i]::s.drop (i+1):=List.drop_eq_getElem_cons hi;have hs:qap s x i (bI s[i])=(0,x):=by
   rw[qef s x i (by unfold bI;have:=hb i hi Yi (by omega);omega),if_pos h1]
  rw[hd,qat,hs,if_pos rfl];have:=qii s x h1 k (i+1) (by omega) (fun j hj h2 h3=>hb j hj (by omega) (by omega));rw[this]
  congr 1
  ·omega
  ·congr 1
   omega
theorem qp1 (s:ByteArray) (i:Nat) (hi:i<s.size) (hb:128≤(s.get! i).toNat):i+(Utf8.decode s i).2≤s.size∧∀j,i≤j→j<i+(Utf8.decode s i).2→128≤(s.get! j).toNat:=by
 have one:i+1≤s.size∧∀j,i≤j→j<i+1→128≤(s.get! j).toNat:=⟨hi,fun j h1 h2=>by rw[show j=i by omega];exact hb⟩;have cont:∀k,(decide (i+k<s.size)&&((s.get! (i+k)).toNat/64==2))=true→i+k<s.size∧128≤(s.get! (i+k)).toNat:=fun k h=>by
  rw[Bool.and_eq_true,decide_eq_true_eq,beq_iff_eq] at h;exact⟨h.1,by omega⟩
 unfold Utf8.decode;simp only[Nat.add_zero];rw[if_neg (by omega)];split
 ·rename_i h
  rw[Bool.and_eq_true] at h;obtain⟨a1,a2⟩:=cont 1 h.2;split
  ·refine⟨by show i+2≤_;omega,fun j h1 h2=>?_⟩
   have h2:j<i+2:=h2;rcases (by omega:j=i∨j=i+1) with rfl|rfl
   ·exact hb
   ·exact a2
  ·exact one
 ·split
  ·rename_i h
   rw[Bool.and_eq_true,Bool.and_eq_true] at h;obtain⟨a1,a2⟩:=cont 1 h.1.2;obtain⟨b1,b2⟩:=cont 2 h.2;split
   ·refine⟨by show i+3≤_;omega,fun j h1 h2=>?_⟩
    have h2:j<i+3:=h2;rcases (by omega:j=i∨j=i+1∨j=i+2) with rfl|rfl|rfl
    ·exact hb
    ·exact a2
    ·exact b2
   ·exact one
  ·split
   ·rename_i h
    rw[Bool.and_eq_true,Bool.and_eq_true,Bool.and_eq_true] at h;obtain⟨a1,a2⟩:=cont 1 h.1.1.2;obtain⟨b1,b2⟩:=cont 2 h.1.2;obtain⟨c1,c2⟩:=cont 3 h.2;split
    ·refine⟨by show i+4≤_;omega,fun j h1 h2=>?_⟩
     have h2:j<i+4:=h2;rcases (by omega:j=i∨j=i+1∨j=i+2∨j=i+3) with rfl|rfl|rfl|rfl
     ·exact hb
     ·exact a2
     ·exact b2
     ·exact c2
    ·exact one
   ·exact one
end Go.Proofs.YtlmhofjiobmodaaGreatDoor

