/-
  The document's Scan by its contract. No condition.
-/
import Derived.Test.YtlmhofjiobmodaaGreatDoorP50
import Derived.Test.YtlmhofjiobmodaaGreatDoorP36
import Derived.Test.YtlmhofjiobmodaaGreatDoorP35
import Derived.Great.BuildSlice
import Derived.Deep.RegionHeld3
import Derived.Test.YtlmhofjiobmodaaGreatDoorP03
set_option maxRecDepth 100000
set_option maxHeartbeats 16000000
namespace Go.Proofs.YtlmhofjiobmodaaGreatDoor
open Go.RowKit Go.Lib
structure RwT (w0 w:World) (v:Value) (T:List Tk):Prop where
 own:w.ownsRow w0.heap.size 49 6 v T.length (tkC T)
 bel:Below w0.heap.size w0 w
theorem RwT.nil (w0 w:World) (x:Below w0.heap.size w0 w):RwT w0 w (.slice none 0 0) []:=⟨World.ownsRow_nil _ _ _ _,x⟩
theorem RwT.app {w0 w w5 w':World} {v v':Value} {T:List Tk} {z:Tk} (h:RwT w0 w v T) (x:Below w.heap.size w w5) (h1:w'.ownsRow w0.heap.size 49 6 v' (T.length+1) (tkC T++(tkV z).toList)) (h2:qfh w5 w' v v'):RwT w0 w' v' (T++[z]):=by
 refine⟨by rw[qj5,List.length_append];exact h1,?_⟩;rcases h2 with⟨g,g1,g2,g3⟩|⟨g1,g2⟩
 ·have hg:=(World.ownsRow.lt h.own g g1).1
  exact(bt h.bel x Yi).trans ((qae g3).below (bt h.bel x Yi).size (fun i hi=>by have:g=i:=(by simpa using hi);omega))
 ·exact bt (bt h.bel x Yi) (qca g1) Yi
theorem qow (w:World) (u0 u1 u2 u3 u4 u5:Value) (j:Nat) (u:Value) (hu:[u0,u1,u2,u3,u4,u5][j]? =some u):(w.alloc (.cells #[u0,u1,u2,u3,u4,u5] 49)).cell? ((⟨w.heap.size,0,none⟩:Addr).add j)=some u:=by
 have hB:=Yh w (.cells #[u0,u1,u2,u3,u4,u5] 49);rw[show(⟨w.heap.size,0,none⟩:Addr).add j=⟨w.heap.size,0+j,none⟩ by unfold Addr.add;split<;>simp_all,Ye _ _ _ _ _ _ hB];simpa using hu
theorem qqr {s:By} {i:Nat} (hi:i<s.length) (hb:blB (bI s[i])=true):qbw false i (s.drop i)=qbw false (i+1) (s.drop (i+1)):=by
 rw[List.drop_eq_getElem_cons hi,qbw.eq_def];simp only;rw[if_neg (by decide),if_pos hb]
theorem qr7 {s:By} {i:Nat} (hi:i<s.length) (h5:s[i]=35):qbw false i (s.drop i)=qbw true i (s.drop i):=by
 rw[List.drop_eq_getElem_cons hi,qbw.eq_def,qbw.eq_def];simp only;rw[if_neg (by decide),if_neg (by rw[h5];decide),if_pos h5,if_pos trivial,if_neg (by rw[h5];decide)]
theorem qs7 {s:By} {i:Nat} (hi:i<s.length) (h:s[i]≠10):qbw true i (s.drop i)=qbw true (i+1) (s.drop (i+1)):=by
 rw[List.drop_eq_getElem_cons hi,qbw.eq_def];simp only;rw[if_pos trivial,if_neg h]
theorem qr8 {s:By} {i:Nat} (h:i=s.length∨∃hi:i<s.length,s[i]=10):qbw true i (s.drop i)=qbw false i (s.drop i):=by
 rcases h with rfl|⟨hi,h⟩
 ·rw[List.drop_length,qbw,qbw]
 ·rw[List.drop_eq_getElem_cons hi,h,qn8,qn8]
theorem qt6 {s:By} {i:Nat} (hi:i<s.length) (hb:blB (bI s[i])≠true) (h5:s[i]≠35) {x:Tk} {n:Nat} (h:qct (s.drop i)=.ok (x,n)):qbw false i (s.drop i)=(qbw false (i+n) (s.drop (i+n))).map fun L=>{ x with p:=i }::L:=by
 obtain⟨n1,n2⟩:=qhn h;rw[List.drop_eq_getElem_cons hi,qbw.eq_def];simp only;rw[if_neg (by decide),if_neg hb,if_neg h5,←List.drop_eq_getElem_cons hi,h];simp only;rw[List.drop_drop,show i+(n-1)+1=i+n by omega,show i+1+(n-1)=i+n by omega]
theorem qs8 {s:By} {i:Nat} (hi:i<s.length) (hb:blB (bI s[i])≠true) (h5:s[i]≠35) {e:Int} (h:qct (s.drop i)=.error e):qbw false i (s.drop i)=.error (e,i):=by
 rw[List.drop_eq_getElem_cons hi,qbw.eq_def];simp only;rw[if_neg (by decide),if_neg hb,if_neg h5,←List.drop_eq_getElem_cons hi,h]
theorem qk3 {s:By} {c n:Int} (h:qbb s=.error (c,n)) {base:Nat} {e:Ending} {w:World} (he:e=.returned (.tuple #[.slice none 0 0,.int .i64 c,.int .i64 n])):qji s base e w:=by
 unfold qji;rw[h];exact he
theorem qr9 {s:By} {L:List Tk} (h:qbb s=.ok L) {base:Nat} {v:Value} {e:Ending} {w:World} (ho:w.ownsRow base 49 6 v L.length (tkC L)) (he:e=.returned (.tuple #[v,.int .i64 0,.int .i64 0])):qji s base e w:=by
 unfold qji;rw[h];exact⟨v,he,ho⟩
theorem qix (s:By) (w:World):
 Calls Tryz.prog 29 #[.string ⟨s.toArray⟩] w fun e w'=>qji s w.heap.size e w'∧Below w.heap.size w w':=by
 have hsz:=qa5 s;by_cases hs:s.length≤8000
 ·have hl':¬(8000:Int)<(s.length:Int):=by omega
  obtain⟨i40,GJ,hz0,hz1,hz2⟩:=info_parts Tryz.info40n;have R0:=qaa (RwT.nil w w Yj);have I0:Hid (qbb s=qkp [] (qbw false 0 (s.drop 0))):=by
   unfold Hid;rw[List.drop_zero,qf4 hs];unfold qkp;cases qbw false 0 s with
   |error e=>rfl
   |ok L=>rfl
  go_enter Tryz.func29,Tryz.ntmps29;go_wp2;go_loopg [5,6,7,8,9,10] (s.length+1) (fun g v x _ _ _ _ wr=>∃(i:Nat) (T:List Tk),x=.int .i64 (i:Nat)∧i≤s.length∧T.length≤i∧Hid (RwT w wr v T)∧Hid (qbb s=qkp T (qbw false i (s.drop i)))∧s.length-i<g)
  case atStart=>exact⟨0,[],rfl,by omega,by simp,R0,I0,by omega⟩
  case round=>
   clear R0 I0;obtain⟨i,T,rfl,hi1,hT,HR,HI,hg⟩:=hrel;have HG:=qaa hg;clear hg;obtain⟨va,vc,hv,_⟩:=qad HR.out.own;subst hv;by_cases hi:i<s.length
   ·have hi':(i:Int)<(s.length:Int):=by omega
    have f1:IntKind.i64.wrap ((i:Int)+1)=(i:Int)+1:=by rw[show(i:Int)+1=((i+1:Nat):Int) by simp];simp[IntKind.wrap,IntKind.bits,IntKind.signed];omega
    obtain⟨y,hy⟩:∃y,s[i]=y:=⟨_,rfl⟩;have hgt:∀hk,(⟨s.toArray⟩:ByteArray)[i]'hk=y:=fun _=>hy
    by_cases hbl:blB (bI y)=true
    ·have HI2:Hid (qbb s=qkp T (qbw false (i+1) (s.drop (i+1)))):=by unfold Hid;rw[HI.out,qqr hi (by rw[hy];exact hbl)]
     have hor:y=32∨y=9∨y=10∨y=13:=by
      unfold blB bI at hbl;simp only[Bool.or_eq_true,decide_eq_true_eq] at hbl;rcases hbl with((h|h)|h)|h
      ·exact .inl (UInt8.toNat_inj.1 (by show y.toNat=32;omega))
      ·exact .inr (.inl (UInt8.toNat_inj.1 (by show y.toNat=9;omega)))
      ·exact .inr (.inr (.inl (UInt8.toNat_inj.1 (by show y.toNat=10;omega))))
      ·exact .inr (.inr (.inr (UInt8.toNat_inj.1 (by show y.toNat=13;omega))))
     clear hbl;rcases hor with h|h|h|h
     all_goals
      subst h;go_wp2;go_roundg (s.length-(i+1)+1)
      case measure=>have:=HG.out;omega
      case rel=>exact⟨i+1,T,by first|rfl|go_num|(congr 1;omega),by omega,by omega,HR,HI2,by omega⟩
    ·have nb:∀n:Nat,n=32∨n=9∨n=10∨n=13→¬(y.toNat:Int)=n:=fun n hn e=>hbl (by
      unfold blB bI;simp only[Bool.or_eq_true,decide_eq_true_eq];omega)
     have b32:((y.toNat:Int)==32)=false:=beq_eq_false_iff_ne.2 (nb 32 (by omega));have b9:((y.toNat:Int)==9)=false:=beq_eq_false_iff_ne.2 (nb 9 (by omega));have b10:((y.toNat:Int)==10)=false:=beq_eq_false_iff_ne.2 (nb 10 (by omega));have b13:((y.toNat:Int)==13)=false:=beq_eq_false_iff_ne.2 (nb 13 (by omega));clear nb;by_cases EG:y=35
     ·subst EG
      have HI2:Hid (qbb s=qkp T (qbw true i (s.drop i))):=by unfold Hid;rw[HI.out,qr7 hi hy]
      have HY:=qaa hy;clear HI hy hbl;go_wp2;go_loopg [6] (s.length+1) (fun g x wx=>∃j:Nat,x=.int .i64 (j:Nat)∧i≤j∧j≤s.length∧wx=wr∧Hid (qbb s=qkp T (qbw true j (s.drop j)))∧s.length-j<g)
      case atStart=>exact⟨i,rfl,Nat.le_refl _,hi1,rfl,HI2,by omega⟩
      case round=>
       clear HI2;obtain⟨j,rfl,hj1,hj2,hw,HJ,hg⟩:=hrel;have hw:=hw.symm;subst hw;have HG2:=qaa hg;clear hg;have f2:IntKind.i64.wrap ((j:Int)+1)=(j:Int)+1:=by rw[show(j:Int)+1=((j+1:Nat):Int) by simp];simp[IntKind.wrap,IntKind.bits,IntKind.signed];omega
       by_cases hgo:∃hj:j<s.length,s[j]≠10
       ·obtain⟨hlt,h10⟩:=hgo
        have hlt':(j:Int)<(s.length:Int):=by omega
        have HJ2:Hid (qbb s=qkp T (qbw true (j+1) (s.drop (j+1)))):=by unfold Hid;rw[HJ.out,qs7 hlt h10]
        obtain⟨b,hb⟩:∃b:UInt8,s[j]=b:=⟨_,rfl⟩;have hix:∀hk,(⟨s.toArray⟩:ByteArray)[j]'hk=b:=fun hk=>(qcz s j hk).trans hb
        rw[hb] at h10;have n10:¬(b.toNat:Int)=10:=fun e=>h10 (UInt8.toNat_inj.1 (by show b.toNat=10;omega))
        have c10:((b.toNat:Int)!=10)=true:=by simpa using n10
        clear h10 hb HJ;go_wp2;go_roundg (s.length-(j+1)+1)
        case measure=>have:=HG2.out;omega
        case rel=>exact⟨j+1,by first|rfl|go_num|(congr 1;omega),by omega,by omega,rfl,HJ2,by omega⟩
       ·have hstop:j=s.length∨∃hj:j<s.length,s[j]=10:=by
         by_cases hlt:j<s.length
         ·refine .inr ⟨hlt,?_⟩
          by_cases h10:s[j]=10
          ·exact h10
          ·exact absurd ⟨hlt,h10⟩ hgo
         ·exact .inl (by omega)
        have HJ2:Hid (qbb s=qkp T (qbw false j (s.drop j))):=by unfold Hid;rw[HJ.out,qr8 hstop]
        have hij:i<j:=by
         rcases hstop with h|⟨h,h10⟩
         ·omega
         ·rcases Nat.lt_or_ge i j with h'|h'
          ·exact h'
          ·exfalso
           obtain rfl:j=i:=by omega
           rw[HY.out] at h10
           revert h10
           decide
        clear hgo HJ;by_cases hlt:j<s.length
        ·have hlt':(j:Int)<(s.length:Int):=by omega
         have hix:∀hk,(⟨s.toArray⟩:ByteArray)[j]'hk=10:=fun hk=>(qcz s j hk).trans (by
          rcases hstop with h|⟨_,h⟩
          ·omega
          ·exact h)
         clear hstop;go_wp2;go_roundg (s.length-j+1)
         case measure=>have:=HG.out;omega
         case rel=>exact⟨j,T,by first|rfl|go_num|(congr 1;omega),hj2,by omega,HR,HJ2,by omega⟩
        ·have hlt':¬(j:Int)<(s.length:Int):=by omega
         have hd:decide ((j:Int)<(s.length:Int))=false:=decide_eq_false hlt';clear hstop;go_wp2;go_roundg (s.length-j+1)
         case measure=>have:=HG.out;omega
         case rel=>exact⟨j,T,by first|rfl|go_num|(congr 1;omega),hj2,by omega,HR,HJ2,by omega⟩
     ·have n35:¬(y.toNat:Int)=35:=fun e=>EG (UInt8.toNat_inj.1 (by show y.toNat=35;omega))
      have b35:((y.toNat:Int)==35)=false:=beq_eq_false_iff_ne.2 n35;have M8:=qaa (fun V=>qqq s hs i hi V);cases hO:qct (s.drop i) with
      |error d=>
       have Gv:Hid (qbb s=.error (d,i)):=by unfold Hid;rw[HI.out,qs8 hi (by rw[hy];exact hbl) (by rw[hy];exact EG) hO];rfl
       have hd:=qdd Gv.out;have bd:(d==0)=false:=by simp[hd]
       have Dk:Hid (∀V,Calls Tryz.prog 54 #[.string ⟨s.toArray⟩,.int .i64 (i:Int)] V fun e w'=>(∃(z:Tk) (n:Int),e=.returned (.tuple #[.agg #[.int .i64 z.k,.string ⟨z.t.toArray⟩,.int .i64 z.n,.int .i64 z.a,.int .i64 z.b,.int .i64 z.p],.int .i64 n,.int .i64 d]))∧Below V.heap.size V w'):=fun V=>by
        refine(M8.out V).mono ?_;rintro e w' ⟨⟨z,n,c,rfl,h2⟩,x⟩;rw[hO] at h2;subst h2;exact⟨⟨z,n,rfl⟩,x⟩
       clear M8 hO hd HI;go_wp2_with (go_at_call 54;refine(Dk.out _).mono ?_;rintro e w2 ⟨⟨z,n,rfl⟩,x2⟩;have X2:=qaa (al (bt HR.out.bel x2 Yi) (.cells #[.int .i64 z.k,.string ⟨z.t.toArray⟩,.int .i64 z.n,.int .i64 z.a,.int .i64 z.b,.int .i64 z.p] 49));clear x2);refine Yg (by simp[results,Tryz.results29,go_sem];rfl) rfl ?_;exact⟨qk3 Gv.out rfl,X2.out⟩
      |ok p=>
       obtain⟨z,n⟩:=p;obtain⟨n1,n2⟩:=qhn hO;rw[List.length_drop] at n2;have HI2:Hid (qbb s=qkp (T++[{ z with p:=i }]) (qbw false (i+n) (s.drop (i+n)))):=by unfold Hid;rw[HI.out,qt6 hi (by rw[hy];exact hbl) (by rw[hy];exact EG) hO,qil]
       obtain⟨E,hE⟩:∃E,E=i+n:=⟨_,rfl⟩;rw[←hE] at HI2;have Dk:Hid (∀V,Calls Tryz.prog 54 #[.string ⟨s.toArray⟩,.int .i64 (i:Int)] V fun e w'=>e=.returned (.tuple #[.agg #[.int .i64 z.k,.string ⟨z.t.toArray⟩,.int .i64 z.n,.int .i64 z.a,.int .i64 z.b,.int .i64 z.p],.int .i64 (E:Int),.int .i64 0])∧Below V.heap.size V w'):=fun V=>by
        refine(M8.out V).mono ?_;rintro e w' ⟨⟨z',n',c,rfl,h2⟩,x⟩;rw[hO] at h2;obtain⟨rfl,rfl,rfl⟩:=h2;rw[hE];exact⟨rfl,x⟩
       have hE1:i<E:=by omega
       have hE2:E≤s.length:=by omega
       clear M8 hO HI hE n1 n2 hbl hy;go_upto_region 20 with(go_at_call 54;refine(Dk.out _).mono ?_;rintro e w2 ⟨rfl,x2⟩;have X2:=qaa x2;clear x2)
       obtain⟨W3,hW3⟩:∃W3,W3=w2.alloc (.cells #[.int .i64 z.k,.string ⟨z.t.toArray⟩,.int .i64 z.n,.int .i64 z.a,.int .i64 z.b,.int .i64 (i:Int)] 49):=⟨_,rfl⟩;have XW:Hid (Below wr.heap.size wr (W3.alloc (.cells #[.int .i64 z.k,.string ⟨z.t.toArray⟩,.int .i64 z.n,.int .i64 z.a,.int .i64 z.b,.int .i64 (i:Int)] 49))):=by unfold Hid;rw[hW3];exact al (al X2.out _) _
       obtain⟨c0,c1,c2,c3,c4,c5⟩:=qdr (show W3.heap[w2.heap.size]? =some (.cells #[.int .i64 z.k,.string ⟨z.t.toArray⟩,.int .i64 z.n,.int .i64 z.a,.int .i64 z.b,.int .i64 (i:Int)] 49 (0,0)) by rw[hW3];exact Yh w2 _);rw[←hW3];clear hW3;have P1:Hid ((W3.alloc (.cells #[.int .i64 z.k,.string ⟨z.t.toArray⟩,.int .i64 z.n,.int .i64 z.a,.int .i64 z.b,.int .i64 (i:Int)] 49)).ownsRow w.heap.size 49 6 (.slice va T.length vc) T.length (tkC T)):=own_below HR.out.own XW.out;have P2:Hid (∀(j:Nat) (u:Value),[Value.int .i64 z.k,.string ⟨z.t.toArray⟩,.int .i64 z.n,.int .i64 z.a,.int .i64 z.b,.int .i64 (i:Int)][j]? =some u→(W3.alloc (.cells #[.int .i64 z.k,.string ⟨z.t.toArray⟩,.int .i64 z.n,.int .i64 z.a,.int .i64 z.b,.int .i64 (i:Int)] 49)).cell? ((⟨W3.heap.size,0,none⟩:Addr).add j)=some u):=qow W3 _ _ _ _ _ _;have P3:Hid (w.heap.size≤(W3.alloc (.cells #[.int .i64 z.k,.string ⟨z.t.toArray⟩,.int .i64 z.n,.int .i64 z.a,.int .i64 z.b,.int .i64 (i:Int)] 49)).heap.size):=(bt HR.out.bel XW.out Yi).size;have P4:Hid (∀v' w',w'.ownsRow w.heap.size 49 6 v' (T.length+1) (tkC T++[Value.int .i64 z.k,.string ⟨z.t.toArray⟩,.int .i64 z.n,.int .i64 z.a,.int .i64 z.b,.int .i64 (i:Int)])→qfh (W3.alloc (.cells #[.int .i64 z.k,.string ⟨z.t.toArray⟩,.int .i64 z.n,.int .i64 z.a,.int .i64 z.b,.int .i64 (i:Int)] 49)) w' (.slice va T.length vc) v'→RwT w w' v' (T++[{ z with p:=i }])):=fun v' w' q1 q2=>HR.out.app XW.out (z:={ z with p:=i }) q1 q2
       clear X2 XW;go_wp2_with (at_builtin;refine qa3 rfl (.tmp 56) (.tmp 58) 43 rfl w.heap.size 49 i40 (.agg #[.int .i64 0,.string ⟨#[]⟩,.int .i64 0,.int .i64 0,.int .i64 0,.int .i64 0]) 6 56 Tryz.underlying43 GJ hz0 hz1 hz2 rfl (by decide) _ T.length _ rfl P1.out ⟨W3.heap.size,0,none⟩ 1 1 [Value.int .i64 z.k,.string ⟨z.t.toArray⟩,.int .i64 z.n,.int .i64 z.a,.int .i64 z.b,.int .i64 (i:Int)] rfl rfl P2.out (by simp[Value.oneCell']) (by decide) (by unfold maxLen;omega) (by omega) P3.out ?_;intro v6 w6 q1 q2;have R6:=qaa (P4.out v6 w6 q1 q2);clear q1 q2);go_roundg (s.length-E+1)
       case measure=>have:=HG.out;omega
       case rel=>exact⟨E,_,by first|rfl|go_num|(congr 1;omega),hE2,by simp;omega,R6,HI2,by omega⟩
   ·obtain rfl:i=s.length:=by omega
    have hi':¬(s.length:Int)<(s.length:Int):=by omega
    have Rt:Hid (qbb s=.ok (T++[⟨8,[],0,0,0,s.length⟩])):=by
     unfold Hid;rw[HI.out,List.drop_length,qbw];rfl
    have XW:Hid (Below wr.heap.size wr (wr.alloc (.cells #[.int .i64 8,.string ⟨#[]⟩,.int .i64 0,.int .i64 0,.int .i64 0,.int .i64 (s.length:Int)] 49))):=al Yj _;have P1:Hid ((wr.alloc (.cells #[.int .i64 8,.string ⟨#[]⟩,.int .i64 0,.int .i64 0,.int .i64 0,.int .i64 (s.length:Int)] 49)).ownsRow w.heap.size 49 6 (.slice va T.length vc) T.length (tkC T)):=own_below HR.out.own XW.out;have P2:Hid (∀(j:Nat) (u:Value),[Value.int .i64 8,.string ⟨#[]⟩,.int .i64 0,.int .i64 0,.int .i64 0,.int .i64 (s.length:Int)][j]? =some u→(wr.alloc (.cells #[.int .i64 8,.string ⟨#[]⟩,.int .i64 0,.int .i64 0,.int .i64 0,.int .i64 (s.length:Int)] 49)).cell? ((⟨wr.heap.size,0,none⟩:Addr).add j)=some u):=qow wr _ _ _ _ _ _;have P3:Hid (w.heap.size≤(wr.alloc (.cells #[.int .i64 8,.string ⟨#[]⟩,.int .i64 0,.int .i64 0,.int .i64 0,.int .i64 (s.length:Int)] 49)).heap.size):=(bt HR.out.bel XW.out Yi).size;have P4:Hid (∀v' w',w'.ownsRow w.heap.size 49 6 v' (T.length+1) (tkC T++[Value.int .i64 8,.string ⟨#[]⟩,.int .i64 0,.int .i64 0,.int .i64 0,.int .i64 (s.length:Int)])→qfh (wr.alloc (.cells #[.int .i64 8,.string ⟨#[]⟩,.int .i64 0,.int .i64 0,.int .i64 0,.int .i64 (s.length:Int)] 49)) w' (.slice va T.length vc) v'→RwT w w' v' (T++[⟨8,[],0,0,0,s.length⟩])):=fun v' w' q1 q2=>HR.out.app XW.out (z:=⟨8,[],0,0,0,s.length⟩) q1 q2
    clear XW HI;go_wp2_with (at_builtin;refine qa3 rfl (.tmp 61) (.tmp 65) 43 rfl w.heap.size 49 i40 (.agg #[.int .i64 0,.string ⟨#[]⟩,.int .i64 0,.int .i64 0,.int .i64 0,.int .i64 0]) 6 56 Tryz.underlying43 GJ hz0 hz1 hz2 rfl (by decide) _ T.length _ rfl P1.out ⟨wr.heap.size,0,none⟩ 1 1 [Value.int .i64 8,.string ⟨#[]⟩,.int .i64 0,.int .i64 0,.int .i64 0,.int .i64 (s.length:Int)] rfl rfl P2.out (by simp[Value.oneCell']) (by decide) (by unfold maxLen;omega) (by omega) P3.out ?_;intro v6 w6 q1 q2;have R6:=qaa (P4.out v6 w6 q1 q2);clear q1 q2);refine Yg (by simp[results,Tryz.results29,go_sem];rfl) rfl ?_;exact⟨qr9 Rt.out R6.out.own rfl,R6.out.bel⟩
 ·have hl':(8000:Int)<(s.length:Int):=by omega
  have Dq:=qaa (qf7 (s:=s) (by omega));go_enter Tryz.func29,Tryz.ntmps29;go_wp2;refine Yg (by simp[results,Tryz.results29,go_sem];rfl) rfl ?_;exact⟨qk3 Dq.out rfl,Below.refl _ _⟩
theorem qj1 {P:Program} {o:Oper} {a:Act} {w:World} {K:Act→World→Prop} {Q:Exit→Act→World→Prop} (t e:TypeId) (x:Operand) (ho:o.op=.buildSlice t 1 #[(0,x)])
 (cs:Array Value) (hx:a.eval x=.agg cs) (ie:TypeInfo) (z:Value) (hu:P.underlying t=some (.slice e)) (hie:P.info? e=some ie) (hz:ie.zero=some z) (hsz:ie.size=cs.size) (h0:0<cs.size) (hsm:cs.size≤2^24)
 (h:K (a.put o.dst (.slice (some ⟨w.heap.size,0,none⟩) 1 1)) (w.alloc (.cells cs e))):o.wp P a w K Q:=by
 obtain⟨r,hr,hrs,NH⟩:=Great.fill_dense (s:=cs.size) h0 [.agg cs] 0 ((Array.range (1*ie.size)).map (z.cells[· %z.cells.size]!)) (fun v hv=>by rw[List.mem_singleton.1 hv];rfl) (by simp[hsz]);have e:r=cs:=by
  apply Array.ext
  ·rw[hrs];simp[hsz]
  ·intro k h1 h2
   have:=NH k;rw[if_pos ⟨by omega,by simp;exact h2⟩] at this;rw[Array.getElem?_eq_getElem h1,Nat.div_eq_of_lt h2,Nat.mod_eq_of_lt h2] at this;simpa [Value.cells,h2] using this
 subst e;refine wp_buildSlice t e 1 _ ho r ie z hu hie hz (by rw[hsz];omega) (by rw[hsz];omega) ?_ h;rw[hsz] at hr ⊢;rw[←hr];simp[hx]
end Go.Proofs.YtlmhofjiobmodaaGreatDoor

