/-
  strings.SplitN at a point, four at most: how many pieces, and where they lie. Condition: a text is no longer than a process can hold.
-/
import Derived.Test.YtlmhofjiobmodaaGreatDoorP27
import Derived.Test.YtlmhofjiobmodaaGreatDoorP24
import Derived.Test.YtlmhofjiobmodaaGreatDoorP25
set_option maxRecDepth 100000
set_option maxHeartbeats 16000000
namespace Go.Proofs.YtlmhofjiobmodaaGreatDoor
open Go.RowKit Go.Lib
theorem qih (l p1 p2 p3 l1 l2 l3:List UInt8) (hl:l.length≤140737488351232) (h1:qbg 46 l=some (p1,l1)) (h2:qbg 46 l1=some (p2,l2)) (h3:qbg 46 l2=some (p3,l3)) (w:World):
 Calls Tryz.prog 192 #[.string ⟨l.toArray⟩,.string ⟨#[46]⟩,.int .i64 4] w fun e w'=>e=.returned (.slice (some ⟨w.heap.size,0,none⟩) 4 4)∧w'=w.alloc (.cells #[.string ⟨p1.toArray⟩,.string ⟨p2.toArray⟩,.string ⟨p3.toArray⟩,.string ⟨l3.toArray⟩] 9):=by
 have h:=qjf l p1 p2 p3 l1 l2 l3 hl h1 h2 h3 w;clear h1 h2 h3;go_enter Tryz.func192,Tryz.ntmps192;go_wp2_with (go_at_call 207;refine h.mono ?_;rintro e w2 ⟨rfl,hw2⟩;subst hw2);go_ret;exact⟨rfl,rfl⟩
theorem qnv (l:List UInt8) (hl:l.length≤140737488351232) (Bj:∀p1 p2 p3 l1 l2 l3,¬(qbg 46 l=some (p1,l1)∧qbg 46 l1=some (p2,l2)∧qbg 46 l2=some (p3,l3))) (w:World):
 Calls Tryz.prog 207 #[.string ⟨l.toArray⟩,.string ⟨#[46]⟩,.int .i64 0,.int .i64 4] w fun e w'=>(∃m c:Nat,e=.returned (.slice (some ⟨w.heap.size,0,none⟩) m c)∧m<4)∧Below w.heap.size w w':=by
 have fin:∀(m c:Nat),m<4→Calls Tryz.prog 207 #[.string ⟨l.toArray⟩,.string ⟨#[46]⟩,.int .i64 0,.int .i64 4] w (fun e w'=>e=.returned (.slice (some ⟨w.heap.size,0,none⟩) m c)∧Below w.heap.size w w')→
  Calls Tryz.prog 207 #[.string ⟨l.toArray⟩,.string ⟨#[46]⟩,.int .i64 0,.int .i64 4] w fun e w'=>(∃m c:Nat,e=.returned (.slice (some ⟨w.heap.size,0,none⟩) m c)∧m<4)∧Below w.heap.size w w':=
  fun m c hm h=>h.mono fun _ _ h=>⟨⟨m,c,h.1,hm⟩,h.2⟩
 cases e1:qbg 46 l with
 |none=>
  rcases Nat.lt_or_ge l.length 3 with h|h
  ·rcases (show l.length=0∨l.length=1∨l.length=2 by omega) with h|h|h
   ·exact fin 1 1 (by decide) (qnm l hl (by omega) w)
   ·exact fin 1 2 (by decide) (qnn l hl (by omega) e1 w)
   ·exact fin 1 3 (by decide) (qnp l hl (by omega) e1 w)
  ·exact fin 1 4 (by decide) (qns l hl (by omega) e1 w)
 |some x1=>
  obtain⟨p1,l1⟩:=x1;have c1:=qa2 e1;cases e2:qbg 46 l1 with
  |none=>
   rcases Nat.lt_or_ge l.length 3 with h|h
   ·rcases (show l.length=1∨l.length=2 by omega) with h|h
    ·exact fin 2 2 (by decide) (qno l p1 l1 hl (by omega) e1 w)
    ·exact fin 2 3 (by decide) (qnq l p1 l1 hl (by omega) e1 e2 w)
   ·exact fin 2 4 (by decide) (qnt l p1 l1 hl (by omega) e1 e2 w)
  |some x2=>
   obtain⟨p2,l2⟩:=x2;have c2:=qa2 e2;cases e3:qbg 46 l2 with
   |none=>
    rcases Nat.lt_or_ge l.length 3 with h|h
    ·exact fin 3 3 (by decide) (qnr l p1 l1 p2 l2 hl (by omega) e1 e2 w)
    ·exact fin 3 4 (by decide) (qnu l p1 l1 p2 l2 hl (by omega) e1 e2 e3 w)
   |some x3=>exact absurd ⟨e1,e2,e3⟩ (Bj p1 p2 x3.1 l1 l2 x3.2)
theorem qlp (l:List UInt8) (hl:l.length≤140737488351232) (Bj:∀p1 p2 p3 l1 l2 l3,¬(qbg 46 l=some (p1,l1)∧qbg 46 l1=some (p2,l2)∧qbg 46 l2=some (p3,l3))) (w:World):
 Calls Tryz.prog 192 #[.string ⟨l.toArray⟩,.string ⟨#[46]⟩,.int .i64 4] w fun e w'=>(∃m c:Nat,e=.returned (.slice (some ⟨w.heap.size,0,none⟩) m c)∧m<4)∧Below w.heap.size w w':=by
 have h:=qnv l hl Bj w;clear Bj;go_enter Tryz.func192,Tryz.ntmps192;go_wp2_with (go_at_call 207;refine h.mono ?_;rintro e w2 ⟨⟨m,c,rfl,hm⟩,x2⟩;have X2:=qaa x2;clear x2);go_ret;exact⟨⟨m,c,rfl,hm⟩,X2.out⟩
theorem qdm (l:List UInt8) (k:Nat) (hk:k<l.length):((⟨l.toArray⟩:ByteArray)[k]'hk)=l[k]:=by
 simp[ByteArray.getElem_eq_getElem_data]
theorem qsd (c:UInt8):(c<48↔c.toNat<48)∧(57<c↔57<c.toNat)∧(c=48↔c.toNat=48):=
 ⟨UInt8.lt_iff_toNat_lt,UInt8.lt_iff_toNat_lt,UInt8.toNat_inj.symm⟩
theorem qbs (l:List UInt8) (most:Nat) (hm:most≤1000) (hl:l.length≤140737488351232) (w:World):
 Calls Tryz.prog 161 #[.string ⟨l.toArray⟩,.int .i64 most] w fun e w'=>e=.returned (.tuple #[.int .i64 (((rn l most).getD 0:Nat):Int),.bool (rn l most).isSome])∧w'=w:=by
 by_cases h0:l=[]
 ·have e:rn l most=none:=if_pos (.inl h0)
  rw[e];subst h0;clear e;go_enter Tryz.func161,Tryz.ntmps161;go_wp2;go_ret2;exact⟨rfl,rfl⟩
 have hpos:0<l.length:=List.length_pos_iff.2 h0;have hemp:l.isEmpty=false:=by simpa using h0
 have hi0:=qdm l 0 hpos;by_cases h1:1<l.length∧l.getD 0 0=48
 ·have e:rn l most=none:=if_pos (.inr h1)
  rw[e];have e2:((⟨l.toArray⟩:ByteArray)[0]'hpos).toNat=48:=by
   rw[hi0];have:=h1.2;simp[List.getD_eq_getElem?_getD,hpos] at this;rw[this];rfl
  have h2:(1:Int)<(l.length:Int):=by omega
  clear e h1 hi0;go_enter Tryz.func161,Tryz.ntmps161;go_wp2;go_ret2;exact⟨rfl,rfl⟩
 have e:rn l most=qdf most l 0:=if_neg (fun h=>h.elim h0 h1);rw[e];clear e;by_cases h2:1<l.length
 ·have e2:((((⟨l.toArray⟩:ByteArray)[0]'hpos).toNat:Int)==48)=false:=by
   have hx:¬l[0]=48:=fun h=>h1 ⟨h2,by simpa [List.getD_eq_getElem?_getD,hpos] using h⟩
   rw[hi0,beq_eq_false_iff_ne];intro h;exact hx ((qsd _).2.2.2 (by omega))
  have h2:(1:Int)<(l.length:Int):=by omega
  clear h1 hi0;go_enter Tryz.func161,Tryz.ntmps161;go_wp2;go_loopw [6,22] (fun n i wr=>∃k N:Nat,k≤l.length∧i=.int .i64 k∧n=.int .i64 N∧N≤1000∧Hid (qdf most l 0=qdf most (l.drop k) N)∧wr=w) (fun _ i _=>l.length-(RowKit.intOf i).toNat)
  case atStart=>exact⟨0,0,Nat.zero_le _,rfl,rfl,by omega,rfl,rfl⟩
  case round=>
   obtain⟨k,N,hk,rfl,rfl,hN,HG,hwr⟩:=hrel;have hwr:=hwr.symm;subst hwr;by_cases hlt:k<l.length
   ·have hd:l.drop k=l[k]::l.drop (k+1):=List.drop_eq_getElem_cons hlt
    rw[hd] at HG;have hix:=qdm l k hlt;obtain⟨c,hc⟩:∃c,c=l[k]:=⟨_,rfl⟩;rw[←hc] at hix HG;obtain⟨u1,u2,_⟩:=qsd c;have HG2:Hid (qdf most l 0=if c<48∨57<c then none else if most<N*10+(c.toNat-48) then none else qdf most (l.drop (k+1)) (N*10+(c.toNat-48))):=HG;have hb:c.toNat<256:=c.toNat_lt;clear hd hc HG;by_cases c1:c.toNat<48
    ·have e:qdf most l 0=none:=by rw[HG2.out,if_pos (.inl (u1.2 c1))]
     have HE:=qaa e;have c1:(c.toNat:Int)<48:=by omega
     clear e u1 u2;go_wp2;go_ret2;exact⟨by rw[HE.out];rfl,rfl⟩
    by_cases c2:57<c.toNat
    ·have e:qdf most l 0=none:=by rw[HG2.out,if_pos (.inr (u2.2 c2))]
     have HE:=qaa e;have c1:¬(c.toNat:Int)<48:=by omega
     have c2:(57:Int)<(c.toNat:Int):=by omega
     clear e u1 u2;go_wp2;go_ret2;exact⟨by rw[HE.out];rfl,rfl⟩
    have Bj:¬(c<48∨57<c):=fun h=>h.elim (fun h=>c1 (u1.1 h)) (fun h=>c2 (u2.1 h))
    have GL:Hid (qdf most l 0=if most<N*10+(c.toNat-48) then none else qdf most (l.drop (k+1)) (N*10+(c.toNat-48))):=by unfold Hid;rw[HG2.out,if_neg Bj]
    obtain⟨g,hg⟩:∃g:Nat,(c.toNat:Int)=g+48:=⟨c.toNat-48,by omega⟩;have hgd:c.toNat-48=g:=by omega
    rw[hgd] at GL;have d1:¬(c.toNat:Int)<48:=by omega
    have d2:¬(57:Int)<(c.toNat:Int):=by omega
    have w1:IntKind.u8.wrap ((c.toNat:Int)-48)=g:=by rw[IntKind.wrap_u8];omega
    clear u1 u2 Bj HG2 c1 c2;by_cases c3:most<N*10+g
    ·have e:qdf most l 0=none:=by rw[GL.out,if_pos c3]
     have HE:=qaa e;have c3:(most:Int)<(N:Int)*10+g:=by omega
     clear e;go_wp2;go_ret2;exact⟨by rw[HE.out];rfl,rfl⟩
    ·have MK:Hid (qdf most l 0=qdf most (l.drop (k+1)) (N*10+g)):=by unfold Hid;rw[GL.out,if_neg c3]
     have c3:¬(most:Int)<(N:Int)*10+g:=by omega
     clear GL;go_wp2;go_roundw
     case rel=>exact⟨k+1,N*10+g,by omega,by go_num,by go_num,by omega,MK,by first|rfl|trivial⟩
     case measure=>simp[RowKit.intOf];omega
   ·have h8:k=l.length:=by omega
    subst h8;have e:qdf most l 0=some N:=by rw[HG.out];simp[qdf]
    have HE:=qaa e;clear e;go_wp2;go_ret2;exact⟨by rw[HE.out];rfl,rfl⟩
 ·have h2:¬(1:Int)<(l.length:Int):=by omega
  clear h1 hi0;go_enter Tryz.func161,Tryz.ntmps161;go_wp2;go_loopw [6,22] (fun n i wr=>∃k N:Nat,k≤l.length∧i=.int .i64 k∧n=.int .i64 N∧N≤1000∧Hid (qdf most l 0=qdf most (l.drop k) N)∧wr=w) (fun _ i _=>l.length-(RowKit.intOf i).toNat)
  case atStart=>exact⟨0,0,Nat.zero_le _,rfl,rfl,by omega,rfl,rfl⟩
  case round=>
   obtain⟨k,N,hk,rfl,rfl,hN,HG,hwr⟩:=hrel;have hwr:=hwr.symm;subst hwr;by_cases hlt:k<l.length
   ·have hd:l.drop k=l[k]::l.drop (k+1):=List.drop_eq_getElem_cons hlt
    rw[hd] at HG;have hix:=qdm l k hlt;obtain⟨c,hc⟩:∃c,c=l[k]:=⟨_,rfl⟩;rw[←hc] at hix HG;obtain⟨u1,u2,_⟩:=qsd c;have HG2:Hid (qdf most l 0=if c<48∨57<c then none else if most<N*10+(c.toNat-48) then none else qdf most (l.drop (k+1)) (N*10+(c.toNat-48))):=HG;have hb:c.toNat<256:=c.toNat_lt;clear hd hc HG;by_cases c1:c.toNat<48
    ·have e:qdf most l 0=none:=by rw[HG2.out,if_pos (.inl (u1.2 c1))]
     have HE:=qaa e;have c1:(c.toNat:Int)<48:=by omega
     clear e u1 u2;go_wp2;go_ret2;exact⟨by rw[HE.out];rfl,rfl⟩
    by_cases c2:57<c.toNat
    ·have e:qdf most l 0=none:=by rw[HG2.out,if_pos (.inr (u2.2 c2))]
     have HE:=qaa e;have c1:¬(c.toNat:Int)<48:=by omega
     have c2:(57:Int)<(c.toNat:Int):=by omega
     clear e u1 u2;go_wp2;go_ret2;exact⟨by rw[HE.out];rfl,rfl⟩
    have Bj:¬(c<48∨57<c):=fun h=>h.elim (fun h=>c1 (u1.1 h)) (fun h=>c2 (u2.1 h))
    have GL:Hid (qdf most l 0=if most<N*10+(c.toNat-48) then none else qdf most (l.drop (k+1)) (N*10+(c.toNat-48))):=by unfold Hid;rw[HG2.out,if_neg Bj]
    obtain⟨g,hg⟩:∃g:Nat,(c.toNat:Int)=g+48:=⟨c.toNat-48,by omega⟩;have hgd:c.toNat-48=g:=by omega
    rw[hgd] at GL;have d1:¬(c.toNat:Int)<48:=by omega
    have d2:¬(57:Int)<(c.toNat:Int):=by omega
    have w1:IntKind.u8.wrap ((c.toNat:Int)-48)=g:=by rw[IntKind.wrap_u8];omega
    clear u1 u2 Bj HG2 c1 c2;by_cases c3:most<N*10+g
    ·have e:qdf most l 0=none:=by rw[GL.out,if_pos c3]
     have HE:=qaa e;have c3:(most:Int)<(N:Int)*10+g:=by omega
     clear e;go_wp2;go_ret2;exact⟨by rw[HE.out];rfl,rfl⟩
    ·have MK:Hid (qdf most l 0=qdf most (l.drop (k+1)) (N*10+g)):=by unfold Hid;rw[GL.out,if_neg c3]
     have c3:¬(most:Int)<(N:Int)*10+g:=by omega
     clear GL;go_wp2;go_roundw
     case rel=>exact⟨k+1,N*10+g,by omega,by go_num,by go_num,by omega,MK,by first|rfl|trivial⟩
     case measure=>simp[RowKit.intOf];omega
   ·have h8:k=l.length:=by omega
    subst h8;have e:qdf most l 0=some N:=by rw[HG.out];simp[qdf]
    have HE:=qaa e;clear e;go_wp2;go_ret2;exact⟨by rw[HE.out];rfl,rfl⟩
theorem qgh {l:List UInt8} {most n:Nat} (h:rn l most=some n):n≤most:=(qey h).2
theorem qfz {l p1 p2 p3 l1 l2 l3:List UInt8} (h1:qbg 46 l=some (p1,l1)) (h2:qbg 46 l1=some (p2,l2)) (h3:qbg 46 l2=some (p3,l3)):
 qbf l=(rn p1 255).bind fun a=>(rn p2 255).bind fun b=>(rn p3 255).bind fun c=>(rn l3 255).bind fun d=>some (W4 a b c d):=by
 simp[qbf,h1,h2,h3]
theorem qnw {l:List UInt8} (Bj:∀p1 p2 p3 l1 l2 l3,¬(qbg 46 l=some (p1,l1)∧qbg 46 l1=some (p2,l2)∧qbg 46 l2=some (p3,l3))):qbf l=none:=by
 unfold qbf;cases e1:qbg 46 l with
 |none=>rfl
 |some x1=>
  cases e2:qbg 46 x1.2 with
  |none=>simp[e2]
  |some x2=>
   cases e3:qbg 46 x2.2 with
   |none=>simp[e2,e3]
   |some x3=>exact absurd ⟨e1,e2,e3⟩ (Bj x1.1 x2.1 x3.1 x1.2 x2.2 x3.2)
def RQ (l:List UInt8) (e:Ending):Prop:=
 ∃a b c d:Nat,(a<256∧b<256∧c<256∧d<256)∧e=.returned (.tuple #[.agg #[.int .u8 a,.int .u8 b,.int .u8 c,.int .u8 d],.bool (qbf l).isSome])∧∀n,qbf l=some n→W4 a b c d=n
theorem RQ.none {l:List UInt8} (h:qbf l=none):RQ l (.returned (.tuple #[.agg #[.int .u8 0,.int .u8 0,.int .u8 0,.int .u8 0],.bool false])):=
 ⟨0,0,0,0,⟨by decide,by decide,by decide,by decide⟩,by rw[h];rfl,fun n hn=>by rw[h] at hn;cases hn⟩
theorem qbv (l:List UInt8) (hl:l.length≤140737488351232) (w:World):Calls Tryz.prog 160 #[.string ⟨l.toArray⟩] w fun e w'=>RQ l e∧Below w.heap.size w w':=by
 by_cases Ec:∃p1 p2 p3 l1 l2 l3,qbg 46 l=some (p1,l1)∧qbg 46 l1=some (p2,l2)∧qbg 46 l2=some (p3,l3)
 ·obtain⟨p1,p2,p3,l1,l2,l3,h1,h2,h3⟩:=Ec
  have hsp:=qih l p1 p2 p3 l1 l2 l3 hl h1 h2 h3;have had:=qfz h1 h2 h3;have c1:=qa2 h1;have c2:=qa2 h2;have c3:=qa2 h3;have r1:=qbs p1 255 (by decide) (by omega);have r2:=qbs p2 255 (by decide) (by omega);have r3:=qbs p3 255 (by decide) (by omega);have r4:=qbs l3 255 (by decide) (by omega);have HA:=qaa had;clear h1 h2 h3 c1 c2 c3 had;go_enter Tryz.func160,Tryz.ntmps160;go_wp2_with (go_at_call 192;refine(hsp _).mono ?_;rintro e w2 ⟨rfl,hw2⟩;subst hw2);clear hsp;refine wp_loop_rounds 5 ?_;cases e1:rn p1 255 with
  |none=>
   have Bj:qbf l=none:=by rw[HA.out];simp[e1]
   have HN:=qaa Bj;rw[e1] at r1;simp only[Option.getD_none,Option.isSome_none] at r1;clear Bj e1;rw[rounds_succ];go_wp2_with (go_at_call 161;refine(r1 _).mono ?_;rintro e w2 ⟨rfl,hw2⟩;subst hw2);refine bodyPost_ret (by simp[results,Tryz.results160,go_sem];try rfl) rfl ?_;exact⟨RQ.none HN.out,by repeat (first|exact Below.refl _ _|refine al ?_ _)⟩
  |some a1=>
   have le1:=qgh e1;have md1:(a1:Int)%256=a1:=by omega
   rw[e1] at r1;simp only[Option.getD_some,Option.isSome_some] at r1;have E1:=qaa e1;clear e1;rw[rounds_succ];go_wp2_with (go_at_call 161;refine(r1 _).mono ?_;rintro e w2 ⟨rfl,hw2⟩;subst hw2);cases e2:rn p2 255 with
   |none=>
    have Bj:qbf l=none:=by rw[HA.out];simp[E1.out,e2]
    have HN:=qaa Bj;rw[e2] at r2;simp only[Option.getD_none,Option.isSome_none] at r2;clear Bj e2;rw[rounds_succ];go_wp2_with (go_at_call 161;refine(r2 _).mono ?_;rintro e w2 ⟨rfl,hw2⟩;subst hw2);refine bodyPost_ret (by simp[results,Tryz.results160,go_sem];try rfl) rfl ?_;exact⟨RQ.none HN.out,by repeat (first|exact Below.refl _ _|refine al ?_ _)⟩
   |some a2=>
    have le2:=qgh e2;have md2:(a2:Int)%256=a2:=by omega
    rw[e2] at r2;simp only[Option.getD_some,Option.isSome_some] at r2;have E2:=qaa e2;clear e2;rw[rounds_succ];go_wp2_with (go_at_call 161;refine(r2 _).mono ?_;rintro e w2 ⟨rfl,hw2⟩;subst hw2);cases e3:rn p3 255 with
    |none=>
     have Bj:qbf l=none:=by rw[HA.out];simp[E1.out,E2.out,e3]
     have HN:=qaa Bj;rw[e3] at r3;simp only[Option.getD_none,Option.isSome_none] at r3;clear Bj e3;rw[rounds_succ];go_wp2_with (go_at_call 161;refine(r3 _).mono ?_;rintro e w2 ⟨rfl,hw2⟩;subst hw2);refine bodyPost_ret (by simp[results,Tryz.results160,go_sem];try rfl) rfl ?_;exact⟨RQ.none HN.out,by repeat (first|exact Below.refl _ _|refine al ?_ _)⟩
    |some a3=>
     have le3:=qgh e3;have md3:(a3:Int)%256=a3:=by omega
     rw[e3] at r3;simp only[Option.getD_some,Option.isSome_some] at r3;have E3:=qaa e3;clear e3;rw[rounds_succ];go_wp2_with (go_at_call 161;refine(r3 _).mono ?_;rintro e w2 ⟨rfl,hw2⟩;subst hw2);cases e4:rn l3 255 with
     |none=>
      have Bj:qbf l=none:=by rw[HA.out];simp[E1.out,E2.out,E3.out,e4]
      have HN:=qaa Bj;rw[e4] at r4;simp only[Option.getD_none,Option.isSome_none] at r4;clear Bj e4;rw[rounds_succ];go_wp2_with (go_at_call 161;refine(r4 _).mono ?_;rintro e w2 ⟨rfl,hw2⟩;subst hw2);refine bodyPost_ret (by simp[results,Tryz.results160,go_sem];try rfl) rfl ?_;exact⟨RQ.none HN.out,by repeat (first|exact Below.refl _ _|refine al ?_ _)⟩
     |some a4=>
      have le4:=qgh e4;have md4:(a4:Int)%256=a4:=by omega
      rw[e4] at r4;simp only[Option.getD_some,Option.isSome_some] at r4;have E4:=qaa e4;clear e4;rw[rounds_succ];go_wp2_with (go_at_call 161;refine(r4 _).mono ?_;rintro e w2 ⟨rfl,hw2⟩;subst hw2);have EY:qbf l=some (W4 a1 a2 a3 a4):=by rw[HA.out];simp[E1.out,E2.out,E3.out,E4.out]
      have HY:=qaa EY;clear EY;rw[rounds_succ];go_wp2;refine bodyPost_ret (by simp[results,Tryz.results160,go_sem];try rfl) rfl ?_;exact⟨⟨a1,a2,a3,a4,⟨by omega,by omega,by omega,by omega⟩,by rw[HY.out];rfl,fun n hn=>by rw[HY.out] at hn;exact Option.some.inj hn⟩,by repeat (first|exact Below.refl _ _|refine al ?_ _)⟩
 ·have Bj:qbf l=none:=qnw fun p1 p2 p3 l1 l2 l3 h=>Ec ⟨p1,p2,p3,l1,l2,l3,h⟩
  have hsp:=qlp l hl (fun p1 p2 p3 l1 l2 l3 h=>Ec ⟨p1,p2,p3,l1,l2,l3,h⟩);have HN:=qaa Bj;clear Bj Ec;have b0:=(Below.refl w.heap.size w).alloc (Nat.le_refl _) (.cells #[.int .u8 0,.int .u8 0,.int .u8 0,.int .u8 0] 193);have hR:((w.alloc (.cells #[.int .u8 0,.int .u8 0,.int .u8 0,.int .u8 0] 193)).alloc (.cells #[.int .u8 0,.int .u8 0,.int .u8 0,.int .u8 0] 193)).heap[w.heap.size]? =some (.cells #[.int .u8 0,.int .u8 0,.int .u8 0,.int .u8 0] 193 (0,0)):=by
   rw[Below.heap_alloc _ _ _ (by simp)];exact heap_alloc_new w _
  have hB:Below w.heap.size w ((w.alloc (.cells #[.int .u8 0,.int .u8 0,.int .u8 0,.int .u8 0] 193)).alloc (.cells #[.int .u8 0,.int .u8 0,.int .u8 0,.int .u8 0] 193)):=al (al (Below.refl _ _) _) _;have Bo:w.heap.size<((w.alloc (.cells #[.int .u8 0,.int .u8 0,.int .u8 0,.int .u8 0] 193)).alloc (.cells #[.int .u8 0,.int .u8 0,.int .u8 0,.int .u8 0] 193)).heap.size:=by simp;omega
  clear b0;go_enter Tryz.func160,Tryz.ntmps160;go_wp2_with (go_at_call 192;generalize (w.alloc (.cells #[.int .u8 0,.int .u8 0,.int .u8 0,.int .u8 0] 193)).alloc (.cells #[.int .u8 0,.int .u8 0,.int .u8 0,.int .u8 0] 193)=W at *;refine(hsp W).mono ?_;rintro e w2 ⟨⟨m,c,rfl,hm⟩,x2⟩;have b2:=(x2.block w.heap.size Bo).trans hR;have c0:w2.cell? ⟨w.heap.size,0,none⟩=some (.int .u8 0):=(by rw[cell_of_row w2 w.heap.size 0 _ _ _ b2];rfl);have c1:w2.cell? ⟨w.heap.size,1,none⟩=some (.int .u8 0):=(by rw[cell_of_row w2 w.heap.size 1 _ _ _ b2];rfl);have c2:w2.cell? ⟨w.heap.size,2,none⟩=some (.int .u8 0):=(by rw[cell_of_row w2 w.heap.size 2 _ _ _ b2];rfl);have c3:w2.cell? ⟨w.heap.size,3,none⟩=some (.int .u8 0):=(by rw[cell_of_row w2 w.heap.size 3 _ _ _ b2];rfl);have f0:=frozen_of_row w2 w.heap.size 0 _ _ b2;have f1:=frozen_of_row w2 w.heap.size 1 _ _ b2;have f2:=frozen_of_row w2 w.heap.size 2 _ _ b2;have f3:=frozen_of_row w2 w.heap.size 3 _ _ b2;have RN:¬((m:Int)=4):=(by omega);have B2:=qaa b2;have X2:=qaa x2;clear x2 b2);have b3:=block_setCell (block_setCell (block_setCell (block_setCell B2.out 0 (.int .u8 0)) 1 (.int .u8 0)) 2 (.int .u8 0)) 3 (.int .u8 0);have k3:Below w.heap.size w ((((w2.setCell ⟨w.heap.size,0,none⟩ (.int .u8 0)).setCell ⟨w.heap.size,1,none⟩ (.int .u8 0)).setCell ⟨w.heap.size,2,none⟩ (.int .u8 0)).setCell ⟨w.heap.size,3,none⟩ (.int .u8 0)):=((((bt hB X2.out (Nat.le_refl _)).setCell (by simp) _).setCell (by simp) _).setCell (by simp) _).setCell (by simp) _;generalize (((w2.setCell ⟨w.heap.size,0,none⟩ (.int .u8 0)).setCell ⟨w.heap.size,1,none⟩ (.int .u8 0)).setCell ⟨w.heap.size,2,none⟩ (.int .u8 0)).setCell ⟨w.heap.size,3,none⟩ (.int .u8 0)=W2 at *;have r0:W2.cell? ⟨w.heap.size,0,none⟩=some (.int .u8 0):=by rw[cell_of_row W2 w.heap.size 0 _ _ _ b3];rfl
  have r1:W2.cell? ⟨w.heap.size,1,none⟩=some (.int .u8 0):=by rw[cell_of_row W2 w.heap.size 1 _ _ _ b3];rfl
  have r2:W2.cell? ⟨w.heap.size,2,none⟩=some (.int .u8 0):=by rw[cell_of_row W2 w.heap.size 2 _ _ _ b3];rfl
  have r3:W2.cell? ⟨w.heap.size,3,none⟩=some (.int .u8 0):=by rw[cell_of_row W2 w.heap.size 3 _ _ _ b3];rfl
  refine bodyPost_ret (by simp[results,Tryz.results160,go_sem,r0,r1,r2,r3];try rfl) rfl ?_;exact⟨RQ.none HN.out,k3⟩
def qrj (l:List UInt8):Int:=((qbf l).getD 0:Nat)
def qrk (l:List UInt8):Int:=if (qbf l).isSome then 0 else 30
theorem eq4' (n:Nat) (a b c d a' b' c' d':Int) (w:World):Sem.run Tryz.prog (Op.equalIn (n+1+1) 193 (.agg #[.int .u8 a,.int .u8 b,.int .u8 c,.int .u8 d]) (.agg #[.int .u8 a',.int .u8 b',.int .u8 c',.int .u8 d'])) w=.ok (a==a'&&b==b'&&c==c'&&d==d') w:=by
 have Pq:=Tryz.underlying193;have hs:∀w,(sizeOf 5).run Tryz.prog w=.ok 1 w:=fun w=>Tryz.sizeOf5 w
 have hi:=fun(x y:Int) (w:World)=>run_equalIn_int (P:=Tryz.prog) w n 5 .u8 .u8 x y Tryz.underlying5
 have p0:∀(x y z u:Value) (w:World),(part 5 #[x,y,z,u] 0).run Tryz.prog w=.ok x w:=fun x y z u w=>by kernel_rfl
 have p1:∀(x y z u:Value) (w:World),(part 5 #[x,y,z,u] 1).run Tryz.prog w=.ok y w:=fun x y z u w=>by kernel_rfl
 have p2:∀(x y z u:Value) (w:World),(part 5 #[x,y,z,u] 2).run Tryz.prog w=.ok z w:=fun x y z u w=>by kernel_rfl
 have p3:∀(x y z u:Value) (w:World),(part 5 #[x,y,z,u] 3).run Tryz.prog w=.ok u w:=fun x y z u w=>by kernel_rfl
 rw[Op.equalIn];simp only[Sem.run_bind,run_underlying Pq,Result.andThen_ok,hs];rw[Std.Legacy.Range.forIn_eq_forIn_range'];cases h0:(a==a')<;>cases h1:(b==b')<;>cases h2:(c==c')<;>cases h3:(d==d')<;>
  simp[Std.Legacy.Range.size,List.range',List.forIn_cons,Sem.run_bind,p0,p1,p2,p3,hi,h0,h1,h2,h3]
theorem eq4 (a b c d a' b' c' d':Int) (w:World):Sem.run Tryz.prog (Op.equalIn 10000 193 (.agg #[.int .u8 a,.int .u8 b,.int .u8 c,.int .u8 d]) (.agg #[.int .u8 a',.int .u8 b',.int .u8 c',.int .u8 d'])) w=.ok (a==a'&&b==b'&&c==c'&&d==d') w:=eq4' 9998 a b c d a' b' c' d' w
theorem qpv (a b c d k:Nat) (ha:a<256) (hb:b<256) (hc:c<256) (hd:d<256) (w:World)
 (hm:∀w,Calls Tryz.prog 208 #[.int .i64 k] w fun e w'=>e=.returned (.agg #[.int .u8 (mk k 0:Nat),.int .u8 (mk k 1:Nat),.int .u8 (mk k 2:Nat),.int .u8 (mk k 3:Nat)])∧w'=(w.alloc (.cells #[.int .u8 (mk k 0:Nat),.int .u8 (mk k 1:Nat),.int .u8 (mk k 2:Nat),.int .u8 (mk k 3:Nat)] 193)).alloc (.cells #[.int .u8 (mk k 0:Nat),.int .u8 (mk k 1:Nat),.int .u8 (mk k 2:Nat),.int .u8 (mk k 3:Nat)] 193)):
 Calls Tryz.prog 193 #[.agg #[.int .u8 a,.int .u8 b,.int .u8 c,.int .u8 d],.int .i64 k] w fun e w'=>e=.returned (.agg #[.int .u8 (a&&& mk k 0:Nat),.int .u8 (b&&& mk k 1:Nat),.int .u8 (c&&& mk k 2:Nat),.int .u8 (d&&& mk k 3:Nat)])∧Below w.heap.size w w':=by
 have e0:=u8_and_nat a (mk k 0) ha (qps k 0);have e1:=u8_and_nat b (mk k 1) hb (qps k 1);have e2:=u8_and_nat c (mk k 2) hc (qps k 2);have e3:=u8_and_nat d (mk k 3) hd (qps k 3);generalize mk k 0=m0 at *;generalize mk k 1=m1 at *;generalize mk k 2=m2 at *;generalize mk k 3=m3 at *;go_enter Tryz.func193,Tryz.ntmps193;go_wp2_with (go_at_call 208;refine(hm _).mono ?_;rintro e w2 ⟨rfl,rfl⟩);refine wp_loop_rounds 5 ?_;rw[rounds_succ];go_wp2;go_region;go_wp2;rw[rounds_succ];go_wp2;go_region;go_wp2;rw[rounds_succ];go_wp2;go_region;go_wp2;rw[rounds_succ];go_wp2;go_region;go_wp2;rw[rounds_succ];go_wp2;refine bodyPost_ret (by simp[results,Tryz.results193,go_sem];try rfl) rfl ?_;refine⟨rfl,?_⟩;exact(al (al (al (al (al (Below.refl _ _) _) _) _) _) _).drew.drew.drew.drew
theorem qpw (a b c d k:Nat) (ha:a<256) (hb:b<256) (hc:c<256) (hd:d<256) (hk:k≤32) (w:World)
 (hm:∀w,Calls Tryz.prog 208 #[.int .i64 k] w fun e w'=>e=.returned (.agg #[.int .u8 (mk k 0:Nat),.int .u8 (mk k 1:Nat),.int .u8 (mk k 2:Nat),.int .u8 (mk k 3:Nat)])∧w'=(w.alloc (.cells #[.int .u8 (mk k 0:Nat),.int .u8 (mk k 1:Nat),.int .u8 (mk k 2:Nat),.int .u8 (mk k 3:Nat)] 193)).alloc (.cells #[.int .u8 (mk k 0:Nat),.int .u8 (mk k 1:Nat),.int .u8 (mk k 2:Nat),.int .u8 (mk k 3:Nat)] 193)):
 Calls Tryz.prog 162 #[.agg #[.int .u8 a,.int .u8 b,.int .u8 c,.int .u8 d],.int .i64 k] w fun e w'=>e=.returned (.bool (decide (W4 a b c d%2^(32-k)=0)))∧Below w.heap.size w w':=by
 have hf:=fun w=>qpv a b c d k ha hb hc hd w hm
 have hl:decide (W4 a b c d%2^(32-k)=0)=decide (a&&& mk k 0=a∧b&&& mk k 1=b∧c&&& mk k 2=c∧d&&& mk k 3=d):=decide_eq_decide.2 (qnj a b c d k ha hb hc hd hk).symm;rw[hl];clear hm hl;generalize a&&& mk k 0=m0 at *;generalize b&&& mk k 1=m1 at *;generalize c&&& mk k 2=m2 at *;generalize d&&& mk k 3=m3 at *;go_enter Tryz.func162,Tryz.ntmps162;go_wp2;generalize hW:w.alloc (.cells #[.int .u8 (a:Int),.int .u8 (b:Int),.int .u8 (c:Int),.int .u8 (d:Int)] 193)=W;have q0:W.cell? ⟨w.heap.size,0,none⟩=some (.int .u8 (a:Int)):=by rw[←hW];simp
 have q1:W.cell? ⟨w.heap.size,1,none⟩=some (.int .u8 (b:Int)):=by rw[←hW];simp
 have q2:W.cell? ⟨w.heap.size,2,none⟩=some (.int .u8 (c:Int)):=by rw[←hW];simp
 have q3:W.cell? ⟨w.heap.size,3,none⟩=some (.int .u8 (d:Int)):=by rw[←hW];simp
 have Bo:w.heap.size<W.heap.size:=by rw[←hW];simp
 have HB:Hid (Below w.heap.size w W):=by rw[←hW];exact al (Below.refl _ _) _
 have q5:=eq4 m0 m1 m2 m3 a b c d;have HD:Hid (Below W.heap.size W W.drew):=(Below.refl _ _).drew;refine wp_region_quiet (C:=fun w'=>Below W.heap.size W w') (by kernel_rfl) (by kernel_rfl) HD.out ?_;refine QW.out (l:=_::_) ?_
 iterate 2 (refine QW.take (by rfl) ?_;apply Exists.intro;refine⟨fun w' hw'=>?_,?_⟩;(·(have g0:=(hw'.cell (p:=⟨w.heap.size,0,none⟩) Bo).trans q0;have g1:=(hw'.cell (p:=⟨w.heap.size,1,none⟩) Bo).trans q1;have g2:=(hw'.cell (p:=⟨w.heap.size,2,none⟩) Bo).trans q2;have g3:=(hw'.cell (p:=⟨w.heap.size,3,none⟩) Bo).trans q3;go_simp;first|done|(first|done|rfl)));try simp only[Act.put,List.setIfInBounds_toArray,List.set_cons_zero,List.set_cons_succ])
 iterate 1 (refine QW.take (by rfl) ?_;apply Exists.intro;refine⟨fun w' hw'=>?_,?_⟩;(·(have g0:=(hw'.cell (p:=⟨w.heap.size,0,none⟩) Bo).trans q0;have g1:=(hw'.cell (p:=⟨w.heap.size,1,none⟩) Bo).trans q1;have g2:=(hw'.cell (p:=⟨w.heap.size,2,none⟩) Bo).trans q2;have g3:=(hw'.cell (p:=⟨w.heap.size,3,none⟩) Bo).trans q3;go_simp;(refine(hf _).mono ?_;rintro e w2 ⟨rfl,x2⟩;exact⟨rfl,hw'.trans (x2.mono hw'.size)⟩)));try simp only[Act.put,List.setIfInBounds_toArray,List.set_cons_zero,List.set_cons_succ])
 iterate 3 (refine QW.take (by rfl) ?_;apply Exists.intro;refine⟨fun w' hw'=>?_,?_⟩;(·(have g0:=(hw'.cell (p:=⟨w.heap.size,0,none⟩) Bo).trans q0;have g1:=(hw'.cell (p:=⟨w.heap.size,1,none⟩) Bo).trans q1;have g2:=(hw'.cell (p:=⟨w.heap.size,2,none⟩) Bo).trans q2;have g3:=(hw'.cell (p:=⟨w.heap.size,3,none⟩) Bo).trans q3;go_simp;first|done|(first|done|rfl)));try simp only[Act.put,List.setIfInBounds_toArray,List.set_cons_zero,List.set_cons_succ])
 refine QW.nil ?_;intro w2 x2;have X2:=qaa x2;clear x2 q0 q1 q2 q3 q5;go_wp2;go_ret;have e:(((m0:Int)==a)&&((m1:Int)==b)&&((m2:Int)==c)&&((m3:Int)==d))=decide (m0=a∧m1=b∧m2=c∧m3=d):=by
  rw[Bool.eq_iff_iff];simp[and_assoc,Int.ofNat_inj]
 exact⟨by rw[←e];rfl,bt HB.out X2.out (Nat.le_refl _)⟩
end Go.Proofs.YtlmhofjiobmodaaGreatDoor

