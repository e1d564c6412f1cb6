/-
  The document's text by its contract. Condition: a source of at most 8000 bytes.
-/
import Derived.Test.YtlmhofjiobmodaaGreatDoorP34
import Derived.Test.YtlmhofjiobmodaaGreatDoorP47
import Derived.Test.YtlmhofjiobmodaaGreatDoorP32
import Derived.Test.YtlmhofjiobmodaaGreatDoorP24
import Derived.Test.YtlmhofjiobmodaaGreatDoorP25
import Derived.Test.YtlmhofjiobmodaaGreatDoorP28
import Derived.Test.YtlmhofjiobmodaaGreatDoorP26
set_option maxRecDepth 100000
set_option maxHeartbeats 16000000
namespace Go.Proofs.YtlmhofjiobmodaaGreatDoor
open Go.RowKit Go.Lib
def TxD (s:By) (q:Nat) (e:Ending):Prop:=∃(t:By) (n:Int) (b:Bool),e=.returned (.tuple #[.string ⟨t.toArray⟩,.int .i64 n,.bool b])∧match txL [] (s.drop (q+1)) with
 |some (m,k)=>t=m∧n=((q+1+k:Nat):Int)∧b=true
 |none=>b=false
def TxI (s:By) (q i:Nat) (acc:By):Prop:=txL [] (s.drop (q+1))=(txL acc (s.drop i)).map (fun p=>(p.1,p.2+(i-(q+1))))∧q+1≤i∧i≤s.length∧acc.length≤i
theorem TxI.none {s:By} {q i:Nat} {acc:By} (h:TxI s q i acc) (h2:txL acc (s.drop i)=none) (t:By) (n:Int) {e:Ending} (he:e=.returned (.tuple #[.string ⟨t.toArray⟩,.int .i64 n,.bool false])):TxD s q e:=by
 refine⟨t,n,false,he,?_⟩;rw[h.1,h2];rfl
theorem TxI.stop {s:By} {q:Nat} {acc:By} (h:TxI s q s.length acc) {e:Ending} (he:e=.returned (.tuple #[.string ⟨#[]⟩,.int .i64 0,.bool false])):TxD s q e:=by
 refine h.none ?_ [] 0 he;rw[List.drop_length,txL]
theorem TxI.quote {s:By} {q i:Nat} {acc:By} (h:TxI s q i acc) (hi:i<s.length) (hy:s[i]=34) {e:Ending} (he:e=.returned (.tuple #[.string ⟨acc.toArray⟩,.int .i64 ((i:Int)+1),.bool (decide ((acc.length:Int)≤200))])):TxD s q e:=by
 have hx:txL acc (s.drop i)=if acc.length≤200 then some (acc,1) else Option.none:=by
  rw[List.drop_eq_getElem_cons hi,txL.eq_def];simp only;rw[if_pos hy]
 by_cases h2:acc.length≤200
 ·rw[if_pos h2] at hx
  refine⟨acc,(i:Int)+1,true,by rw[he,decide_eq_true (by omega)],?_⟩;rw[h.1,hx];refine⟨rfl,?_,rfl⟩;have:=h.2.1;show(i:Int)+1=((q+1+(1+(i-(q+1))):Nat):Int);omega
 ·rw[if_neg h2] at hx
  exact h.none hx acc _ (by rw[he,decide_eq_false (by omega)])
theorem TxI.wrong {s:By} {q i:Nat} {acc:By} (h:TxI s q i acc) (hi:i<s.length) (BZ:s[i]≠34) (ht:txB (bI s[i])≠true) {e:Ending} (he:e=.returned (.tuple #[.string ⟨#[]⟩,.int .i64 0,.bool false])):TxD s q e:=by
 refine h.none ?_ [] 0 he;rw[List.drop_eq_getElem_cons hi,txL.eq_def];simp only;rw[if_neg BZ,if_neg ht]
theorem TxI.last {s:By} {q i:Nat} {acc:By} (h:TxI s q i acc) (hi:i+1=s.length) (hy:s[i]=92) {e:Ending} (he:e=.returned (.tuple #[.string ⟨#[]⟩,.int .i64 0,.bool false])):TxD s q e:=by
 refine h.none ?_ [] 0 he;rw[List.drop_eq_getElem_cons (by omega),hi,List.drop_length,txL.eq_def];simp only;rw[if_neg (by rw[hy];decide),if_pos (by rw[hy];decide),if_pos hy]
theorem TxI.noesc {s:By} {q i:Nat} {acc:By} (h:TxI s q i acc) (hi:i+1<s.length) (hy:s[i]=92) (hz:esB (bI s[i+1])≠true) {e:Ending} (he:e=.returned (.tuple #[.string ⟨#[]⟩,.int .i64 0,.bool false])):TxD s q e:=by
 refine h.none ?_ [] 0 he;rw[List.drop_eq_getElem_cons (by omega),List.drop_eq_getElem_cons hi,txL.eq_def];simp only;rw[if_neg (by rw[hy];decide),if_pos (by rw[hy];decide),if_pos hy,if_neg hz]
theorem TxI.esc {s:By} {q i:Nat} {acc:By} (h:TxI s q i acc) (hi:i+1<s.length) (hy:s[i]=92) (hz:esB (bI s[i+1])=true):TxI s q (i+2) (acc++[s[i+1]]):=by
 have h2:=h.2.1;refine⟨?_,by omega,by omega,by have:=h.2.2.2;simp;omega⟩;rw[h.1,List.drop_eq_getElem_cons (by omega),List.drop_eq_getElem_cons hi,txL.eq_def];simp only;rw[if_neg (by rw[hy];decide),if_pos (by rw[hy];decide),if_pos hy,if_pos hz,Option.map_map]
 congr 1
 funext p
 simp only[Function.comp]
 congr 1
 omega
theorem TxI.go {s:By} {q i:Nat} {acc:By} (h:TxI s q i acc) (hi:i<s.length) (BZ:s[i]≠34) (EW:s[i]≠92) (ht:txB (bI s[i])=true):TxI s q (i+1) (acc++[s[i]]):=by
 have h2:=h.2.1;refine⟨?_,by omega,by omega,by have:=h.2.2.2;simp;omega⟩;rw[h.1,List.drop_eq_getElem_cons hi,txL.eq_def];simp only;rw[if_neg BZ,if_pos ht,if_neg EW,Option.map_map]
 congr 1
 funext p
 simp only[Function.comp]
 congr 1
 omega
theorem TxI.start (s:By) (q:Nat) (hq:q<s.length):TxI s q (q+1) []:=by
 refine⟨?_,by omega,by omega,by simp⟩;cases txL [] (s.drop (q+1)) with
 |none=>rfl
 |some p=>simp
theorem qoo (s:By) (hs:s.length≤8000) (q:Nat) (hq:q<s.length) (w:World):
 Calls Tryz.prog 84 #[.string ⟨s.toArray⟩,.int .i64 (q:Int)] w fun e w'=>TxD s q e∧Below w.heap.size w w':=by
 have hsz:=qa5 s;obtain⟨i5,hi5,En,Eo,Ep⟩:=info_parts Tryz.info5n;have f0:IntKind.i64.wrap ((q:Int)+1)=(q:Int)+1:=by rw[show(q:Int)+1=((q+1:Nat):Int) by simp];simp[IntKind.wrap,IntKind.bits,IntKind.signed];omega
 have R0:=qaa (RwB.nil w w Yj);have I0:=qaa (TxI.start s q hq);go_enter Tryz.func84,Tryz.ntmps84;go_wp2;go_loopg [7,8,9] (s.length+2) (fun g v x _ wr=>∃(i:Nat) (acc:By),x=.int .i64 (i:Nat)∧i≤s.length∧Hid (RwB w wr v acc)∧Hid (TxI s q i acc)∧s.length-i<g)
 case atStart=>exact⟨q+1,[],by first|rfl|go_num|(congr 1;omega),by omega,R0,I0,by omega⟩
 case round=>
  clear R0 I0;obtain⟨i,acc,rfl,hi1,HR,HI,hg⟩:=hrel;have HG:=qaa hg;clear hg;obtain⟨va,vc,hv,_⟩:=qad HR.out.own;subst hv;have hacc:acc.length≤8000:=by have:=HI.out.2.2.2;omega
  by_cases hi:i<s.length
  ·have hi':(i:Int)<(s.length:Int):=by omega
   have f1:IntKind.i64.wrap ((i:Int)+1)=(i:Int)+1:=by rw[show(i:Int)+1=((i+1:Nat):Int) by simp];simp[IntKind.wrap,IntKind.bits,IntKind.signed];omega
   obtain⟨y,hy⟩:∃y,s[i]=y:=⟨_,rfl⟩;have hgt:∀hk,(⟨s.toArray⟩:ByteArray)[i]'hk=y:=fun _=>hy
   have Ed:Hid (∀(c:UInt8),((wr.alloc (.cells #[.int .u8 (c.toNat:Int)] 5)).ownsRow w.heap.size 5 1 (.slice va acc.length vc) acc.length (Lib.byteCells acc)∧w.heap.size≤(wr.alloc (.cells #[.int .u8 (c.toNat:Int)] 5)).heap.size∧∀v' w',w'.ownsRow w.heap.size 5 1 v' (acc.length+1) (Lib.byteCells acc++[.int .u8 (c.toNat:Int)])→qfh (wr.alloc (.cells #[.int .u8 (c.toNat:Int)] 5)) w' (.slice va acc.length vc) v'→RwB w w' v' (acc++[c]))):=fun c=>by
    have xa:=al (Below.refl wr.heap.size wr) (.cells #[.int .u8 (c.toNat:Int)] 5);exact⟨own_below HR.out.own xa,(bt HR.out.bel xa Yi).size,fun v' w' q1 q2=>HR.out.appL xa (u:=[c]) q1 q2⟩
   by_cases BZ:y=34
   ·subst BZ
    have hcv:=HR.out.conv;go_wp2;refine Yg (by simp[results,Tryz.results84,go_sem];rfl) rfl ?_;exact⟨HI.out.quote hi hy rfl,HR.out.bel⟩
   ·have n34:¬(y.toNat:Int)=34:=fun e=>BZ (UInt8.toNat_inj.1 (by show y.toNat=34;omega))
    have b34:((y.toNat:Int)==34)=false:=beq_eq_false_iff_ne.2 n34;by_cases h32:(y.toNat:Int)<32
    ·have HW:=qaa (fun e he=>HI.out.wrong hi (by rw[hy];exact BZ) (by rw[hy];unfold txB bI;simp;omega) (e:=e) he)
     go_wp2;refine Yg (by simp[results,Tryz.results84,go_sem];rfl) rfl ?_;exact⟨HW.out _ rfl,HR.out.bel⟩
    ·by_cases Rs:(126:Int)<(y.toNat:Int)
     ·have HW:=qaa (fun e he=>HI.out.wrong hi (by rw[hy];exact BZ) (by rw[hy];unfold txB bI;simp;omega) (e:=e) he)
      go_wp2;refine Yg (by simp[results,Tryz.results84,go_sem];rfl) rfl ?_;exact⟨HW.out _ rfl,HR.out.bel⟩
     ·by_cases EW:y=92
      ·subst EW
       by_cases hl:i+1=s.length
       ·have hl':(i:Int)+1=(s.length:Int):=by omega
        have hlb:((i:Int)+1==(s.length:Int))=true:=by simp[hl']
        have HW:=qaa (fun e he=>HI.out.last hl hy (e:=e) he);go_wp2;refine Yg (by simp[results,Tryz.results84,go_sem];rfl) rfl ?_;exact⟨HW.out _ rfl,HR.out.bel⟩
       ·have hl2:i+1<s.length:=by omega
        have hl':¬(i:Int)+1=(s.length:Int):=by omega
        have hlb:((i:Int)+1==(s.length:Int))=false:=by simp[hl']
        have hl3:(i:Int)+1<(s.length:Int):=by omega
        have t1:((i:Int)+1).toNat=i+1:=by omega
        have t2:(0:Int)≤(i:Int)+1:=by omega
        have f2:IntKind.i64.wrap ((i:Int)+1+1)=(i:Int)+1+1:=by rw[show(i:Int)+1+1=((i+2:Nat):Int) by omega];simp[IntKind.wrap,IntKind.bits,IntKind.signed];omega
        obtain⟨z,hz⟩:∃z,s[i+1]=z:=⟨_,rfl⟩;have hgz:∀hk,(⟨s.toArray⟩:ByteArray)[i+1]'hk=z:=fun _=>hz
        cases hes:esB (bI z) with
        |false=>
         have HW:=qaa (fun e he=>HI.out.noesc hl2 hy (by rw[hz,hes];decide) (e:=e) he);have m34:¬(z.toNat:Int)=34:=fun e=>by unfold esB bI at hes;rw[e] at hes;simp at hes
         have m92:¬(z.toNat:Int)=92:=fun e=>by unfold esB bI at hes;rw[e] at hes;simp at hes
         have c34:((z.toNat:Int)==34)=false:=beq_eq_false_iff_ne.2 m34;have c92:((z.toNat:Int)==92)=false:=beq_eq_false_iff_ne.2 m92;have d34:((z.toNat:Int)!=34)=true:=by simpa using m34
         have d92:((z.toNat:Int)!=92)=true:=by simpa using m92
         clear hes;go_wp2;refine Yg (by simp[results,Tryz.results84,go_sem];rfl) rfl ?_;exact⟨HW.out _ rfl,HR.out.bel⟩
        |true=>
         have HE:=qaa (HI.out.esc hl2 hy (by rw[hz];exact hes));rw[hz] at HE;obtain⟨p1,p2,p3⟩:=Ed.out z;have P1:=qaa p1;have P2:=qaa (qfc wr z);have P3:=qaa p2;have P4:=qaa p3;clear p1 p2 p3 Ed HI;have Lh:Hid (z=34∨z=92):=by
          unfold esB bI at hes;simp only[Bool.or_eq_true,decide_eq_true_eq] at hes;rcases hes with h|h
          ·exact .inl (UInt8.toNat_inj.1 (by show z.toNat=34;omega))
          ·exact .inr (UInt8.toNat_inj.1 (by show z.toNat=92;omega))
         clear hes;rcases Lh.out with h|h
         all_goals
          subst h;go_wp2_with (at_builtin;refine qa3 rfl (.tmp 62) (.tmp 64) 64 rfl w.heap.size 5 i5 (.int .u8 0) 1 1 Tryz.underlying64 hi5 En Eo Ep rfl (by decide) _ acc.length _ rfl P1.out ⟨wr.heap.size,0,none⟩ 1 1 _ rfl rfl P2.out (by simp[Value.oneCell']) (by decide) (by unfold maxLen;omega) (by omega) P3.out ?_;intro v6 w6 q1 q2;have R6:=qaa (P4.out v6 w6 q1 q2);clear q1 q2);go_roundg (s.length-(i+2)+1)
          case measure=>have:=HG.out;omega
          case rel=>exact⟨i+2,_,by first|rfl|go_num|(congr 1;omega),by omega,R6,HE,by omega⟩
      ·have n92:¬(y.toNat:Int)=92:=fun e=>EW (UInt8.toNat_inj.1 (by show y.toNat=92;omega))
       have b92:((y.toNat:Int)==92)=false:=beq_eq_false_iff_ne.2 n92;have HE:=qaa (HI.out.go hi (by rw[hy];exact BZ) (by rw[hy];exact EW) (by rw[hy];unfold txB bI;simp;omega));rw[hy] at HE;obtain⟨p1,p2,p3⟩:=Ed.out y;have P1:=qaa p1;have P2:=qaa (qfc wr y);have P3:=qaa p2;have P4:=qaa p3;clear p1 p2 p3 Ed HI EW BZ;go_wp2_with (at_builtin;refine qa3 rfl (.tmp 62) (.tmp 64) 64 rfl w.heap.size 5 i5 (.int .u8 0) 1 1 Tryz.underlying64 hi5 En Eo Ep rfl (by decide) _ acc.length _ rfl P1.out ⟨wr.heap.size,0,none⟩ 1 1 _ rfl rfl P2.out (by simp[Value.oneCell']) (by decide) (by unfold maxLen;omega) (by omega) P3.out ?_;intro v6 w6 q1 q2;have R6:=qaa (P4.out v6 w6 q1 q2);clear q1 q2);go_roundg (s.length-(i+1)+1)
       case measure=>have:=HG.out;omega
       case rel=>exact⟨i+1,_,by first|rfl|go_num|(congr 1;omega),by omega,R6,HE,by omega⟩
  ·obtain rfl:i=s.length:=by omega
   have hi':¬(s.length:Int)<(s.length:Int):=by omega
   go_wp2;refine Yg (by simp[results,Tryz.results84,go_sem];rfl) rfl ?_;exact⟨HI.out.stop rfl,HR.out.bel⟩
theorem qds (c:UInt8):qb5 c↔48≤c.toNat∧c.toNat≤57:=⟨fun h=>⟨UInt8.le_iff_toNat_le.1 h.1,UInt8.le_iff_toNat_le.1 h.2⟩,fun h=>⟨UInt8.le_iff_toNat_le.2 h.1,UInt8.le_iff_toNat_le.2 h.2⟩⟩
theorem qop:∀(l:By) (acc:Nat),acc≤4294967295→(∀c∈l,qb5 c)→parseUintM 4294967295 acc l=if qci l acc≤4294967295 then .ok (qci l acc) else .range
 |[],acc,ha,_=>by
  rw[parseUintM,qci,if_pos ha]
 |c::r,acc,ha,h=>by
  have hc:=(qds c).1 (h c List.mem_cons_self);have hg:=qhi r (acc*10+(c.toNat-48));rw[parseUintM,if_pos hc,if_neg (by omega),qci];by_cases hm:4294967295<acc*10+(c.toNat-48)
  ·rw[if_pos hm,if_neg (by omega)]
  ·rw[if_neg hm]
   exact qop r _ (by omega) fun x hx=>h x (List.mem_cons_of_mem _ hx)
theorem qoq {l:By} (hl:l≠[]) (h:∀c∈l,qb5 c):parseUintB 32 l=if qci l 0≤4294967295 then .ok (qci l 0) else .range:=by
 unfold parseUintB;rw[if_neg hl];exact qop l 0 (by decide) h
theorem qor:∀(l:By) (acc u:Nat),parseUintM 4294967295 acc l=.ok u→∀c∈l,qb5 c
 |[],_,_,_,_,hc=>by cases hc
 |c::r,acc,u,h,x,hx=>by
  rw[parseUintM] at h;split at h
  ·rename_i hd
   split at h
   ·cases h
   ·split at h
    ·cases h
    ·rcases List.mem_cons.1 hx with rfl|hx
     ·exact(qds _).2 hd
     ·exact qor r _ u h x hx
  ·cases h
theorem qc5 {l:By} {u:Nat} (hl:l≠[]) (h:qdy l=some u):(∀c∈l,qb5 c)∧qci l 0=u∧u≤4294967295∧¬(l.head? =some 48∧l≠[48]):=by
 unfold qdy at h;cases hp:parseUintB 32 l with
 |ok v=>
  rw[hp] at h;simp only at h;split at h
  ·cases h
  ·rename_i hz
   obtain rfl:=Option.some.inj h;have hd:∀c∈l,qb5 c:=by
    unfold parseUintB at hp;rw[if_neg hl] at hp;exact qor l 0 v hp
   have:=qoq hl hd;rw[hp] at this;split at this
   ·rename_i hv
    injection this with this
    exact⟨hd,this.symm,by omega,hz⟩
   ·cases this
 | «syntax» =>rw[hp] at h;cases h
 |range=>rw[hp] at h;cases h
theorem qr3 {l:By} (hl:l≠[]) (hd:∀c∈l,qb5 c) (hv:qci l 0≤4294967295) (hz:¬(l.head? =some 48∧l≠[48])):qdy l=some (qci l 0):=by
 unfold qdy;rw[qoq hl hd,if_pos hv];simp only;rw[if_neg hz]
theorem qk0:∀(l:By) (n:Nat),n*10^l.length≤qci l n
 |[],n=>by simp[qci]
 |c::t,n=>by
  have h:=qk0 t (n*10+(c.toNat-48));rw[qci,List.length_cons,Nat.pow_succ];refine Nat.le_trans ?_ h;rw[Nat.add_mul,Nat.mul_comm (10^t.length) 10,←Nat.mul_assoc];exact Nat.le_add_right _ _
theorem qos:∀(l:By) (n:Nat),(∀c∈l,qb5 c)→qci l n<(n+1)*10^l.length
 |[],n,_=>by simp[qci]
 |c::t,n,h=>by
  have hc:=(qds c).1 (h c List.mem_cons_self);have h2:=qos t (n*10+(c.toNat-48)) fun x hx=>h x (List.mem_cons_of_mem _ hx)
  rw[qci,List.length_cons,Nat.pow_succ];refine Nat.lt_of_lt_of_le h2 ?_;rw[Nat.mul_comm (10^t.length) 10,←Nat.mul_assoc];exact Nat.mul_le_mul_right _ (by omega)
def NmD (s:By) (e:Ending):Prop:=∃x:Int,e=.returned (.tuple #[.int .i64 x,.bool (qdy s).isSome])∧∀u,qdy s=some u→x=u
theorem NmD.no {s:By} (x:Int) (h:qdy s=none):NmD s (.returned (.tuple #[.int .i64 x,.bool false])):=⟨x,by rw[h];rfl,fun u hu=>by rw[h] at hu;cases hu⟩
theorem qr4 {s:By} (hs:s≠[]) {i:Nat} (hi:i<s.length) (h:¬qb5 s[i]):qdy s=none:=by
 cases hn:qdy s with
 |none=>rfl
 |some u=>exact absurd ((qc5 hs hn).1 _ (List.getElem_mem hi)) h
theorem qql {s:By} (h:10<s.length):qdy s=none:=by
 have hs:s≠[]:=by intro e;rw[e] at h;simp at h
 cases hn:qdy s with
 |none=>rfl
 |some u=>
  obtain⟨h1,h2,h3,h4⟩:=qc5 hs hn;obtain⟨c,t,rfl⟩:=List.exists_cons_of_ne_nil hs;have hc:=(qds c).1 (h1 c List.mem_cons_self);have Nz:c≠48:=fun e=>h4 ⟨by rw[e];rfl,fun e'=>by rw[e'] at h;simp at h⟩
  have hc2:c.toNat≠48:=fun e=>Nz (UInt8.toNat_inj.1 e)
  have hp:=qk0 t (0*10+(c.toNat-48));rw[List.length_cons] at h;have hq:10^10≤10^t.length:=Nat.pow_le_pow_right (by decide) (by omega);have hr:1*10^t.length≤(0*10+(c.toNat-48))*10^t.length:=Nat.mul_le_mul_right _ (by omega);rw[qci] at h2;omega
theorem qgw (s:By) (hs:s≠[]) (hl:s.length≤140737488351232) (w:World):Calls Tryz.prog 122 #[.string ⟨s.toArray⟩] w fun e w'=>NmD s e∧w'=w:=by
 have hsz:=qa5 s;have hpos:0<s.length:=List.length_pos_iff.2 hs;go_enter Tryz.func122,Tryz.ntmps122;go_wp2;go_loopg [4,5] 12 (fun g x y wr=>∃i:Nat,x=.int .i64 (qci (s.take i) 0:Nat)∧y=.int .i64 (i:Nat)∧i≤s.length∧i≤10∧Hid (∀c∈s.take i,qb5 c)∧wr=w∧11-i<g)
 case atStart=>exact⟨0,rfl,rfl,by omega,by omega,fun c hc=>by simp at hc,rfl,by omega⟩
 case round=>
  obtain⟨i,rfl,rfl,hi1,hi2,HD,hw,hg⟩:=hrel;have hw:=hw.symm;subst hw;have HG:=qaa hg;clear hg;have hlt:=qos (s.take i) 0 HD.out;have hle:(0+1)*10^(s.take i).length≤10^10:=by rw[Nat.zero_add,Nat.one_mul];exact Nat.pow_le_pow_right (by decide) (by simp;omega)
  have hv:qci (s.take i) 0<10000000000:=by omega
  clear hlt hle;by_cases hi:i<s.length
  ·have hi':(i:Int)<(s.length:Int):=by omega
   obtain⟨b,hb⟩:∃b:UInt8,s[i]=b:=⟨_,rfl⟩;have hix:∀hk,(⟨s.toArray⟩:ByteArray)[i]'hk=b:=fun hk=>(qcz s i hk).trans hb
   have H1:=qaa (fun W=>qe1 (b.toNat:Int) W);have hdg:dgB (b.toNat:Int)=decide (qb5 b):=by
    unfold dgB;rw[←Bool.decide_and]
    congr 1
    rw[eq_iff_iff,qds];omega
   rw[hdg] at H1;clear hdg;by_cases hd:qb5 b
   ·rw[decide_eq_true hd] at H1
    by_cases h9:i=10
    ·subst h9
     have HN:=qaa (qql hi);clear hi';go_wp2_with (go_at_call 80;refine(H1.out _).mono ?_;rintro e wz ⟨rfl,Ba⟩;have Ba:=Ba.symm;subst Ba);refine Yg (by simp[results,Tryz.results122,go_sem];rfl) rfl ?_;exact⟨NmD.no 0 HN.out,rfl⟩
    ·have RV:¬(9:Int)<(i:Int):=by omega
     have hdd:=(qds b).1 hd;have f0:IntKind.u8.wrap ((b.toNat:Int)-48)=((b.toNat-48:Nat):Int):=by simp[IntKind.wrap,IntKind.bits,IntKind.signed];omega
     have HV:Hid (qci (s.take (i+1)) 0=10*qci (s.take i) 0+(b.toNat-48)):=by
      unfold Hid;rw[List.take_add_one,List.getElem?_eq_getElem hi,hb];show qci (s.take i++[b]) 0=_;rw[qcq,Nat.mul_comm]
     have HD2:Hid (∀c∈s.take (i+1),qb5 c):=fun c hc=>by
      rw[List.take_add_one,List.getElem?_eq_getElem hi,hb] at hc;rcases List.mem_append.1 hc with hc|hc
      ·exact HD.out c hc
      ·have:c=b:=by simpa using hc
       rw[this];exact hd
     generalize qci (s.take i) 0=v at *;have RX:b.toNat-48≤9:=by omega
     generalize b.toNat-48=dv at *;have f1:IntKind.i64.wrap (10*(v:Int))=10*(v:Int):=by simp[IntKind.wrap,IntKind.bits,IntKind.signed];omega
     have f2:IntKind.i64.wrap (10*(v:Int)+(dv:Int))=10*(v:Int)+(dv:Int):=by simp[IntKind.wrap,IntKind.bits,IntKind.signed];omega
     have f3:IntKind.i64.wrap ((i:Int)+1)=(i:Int)+1:=by simp[IntKind.wrap,IntKind.bits,IntKind.signed];omega
     have f4:IntKind.i64.wrap (dv:Int)=(dv:Int):=by simp[IntKind.wrap,IntKind.bits,IntKind.signed];omega
     clear hd hdd;go_wp2_with (go_at_call 80;refine(H1.out _).mono ?_;rintro e wz ⟨rfl,Ba⟩;have Ba:=Ba.symm;subst Ba);go_roundg (11-(i+1)+1)
     case measure=>have:=HG.out;omega
     case rel=>exact⟨i+1,by rw[HV.out];simp,by simp,by omega,by omega,HD2,rfl,by omega⟩
   ·rw[decide_eq_false hd] at H1
    have HN:=qaa (qr4 hs hi (by rw[hb];exact hd));clear hd;go_wp2_with (go_at_call 80;refine(H1.out _).mono ?_;rintro e wz ⟨rfl,Ba⟩;have Ba:=Ba.symm;subst Ba);refine Yg (by simp[results,Tryz.results122,go_sem];rfl) rfl ?_;exact⟨NmD.no 0 HN.out,rfl⟩
  ·obtain rfl:i=s.length:=by omega
   rw[List.take_length] at HD hv ⊢;obtain⟨c,t,rfl⟩:=List.exists_cons_of_ne_nil hs;have hix:∀hk,(⟨(c::t).toArray⟩:ByteArray)[0]'hk=c:=fun _=>rfl
   obtain⟨S,hS⟩:∃S:ByteArray,Hid (S=⟨(c::t).toArray⟩):=⟨_,rfl⟩;have hpz:(0:Int)<((c::t).length:Int):=by omega
   obtain⟨n,hn⟩:∃n:Nat,(c::t).length=n:=⟨_,rfl⟩;have key:∀b,(qdy (c::t)).isSome=b→Hid (NmD (c::t) (.returned (.tuple #[.int .i64 (qci (c::t) 0:Nat),.bool b]))):=fun b e=>⟨_,by rw[e],fun u hu=>by rw[(qc5 hs hu).2.1]⟩
   have Bj:¬qci (c::t) 0≤4294967295→(qdy (c::t)).isSome=false:=fun h=>by
    cases hn:qdy (c::t) with
    |none=>rfl
    |some u=>
     obtain⟨_,h2,h3,_⟩:=qc5 hs hn;omega
   have Lj:c=48→n≠1→(qdy (c::t)).isSome=false:=fun h hn1=>by
    cases hn':qdy (c::t) with
    |none=>rfl
    |some u=>
     obtain⟨_,_,_,h4⟩:=qc5 hs hn';exact absurd ⟨by rw[h];rfl,fun e=>hn1 (by rw[←hn,e];rfl)⟩ h4
   have EY:qci (c::t) 0≤4294967295→(c≠48∨n=1)→(qdy (c::t)).isSome=true:=fun h h2=>by
    rw[qr3 hs HD.out h (fun⟨h3,h4⟩=>by
     rcases h2 with h2|h2
     ·exact h2 (by simpa using h3)
     ·rw[List.length_cons] at hn
      have:t=[]:=List.length_eq_zero_iff.1 (by omega);subst this;have:c=48:=by simpa using h3
      exact h4 (by rw[this]))]
    rfl
   clear HD;rw[hn] at hpz hi hi1 hi2 hsz ⊢;rw[←hS.out] at hix hsz ⊢;generalize hV:qci (c::t) 0=v at *;have KK:=qaa key;have Ew:=qaa Bj;have N7:=qaa Lj;have OL:=qaa EY;clear key Bj Lj EY hs hpos;by_cases N8:v≤4294967295
   ·have Ll:(v:Int)≤4294967295:=by omega
    by_cases hc:c=48
    ·by_cases h1:n=1
     ·have HR:=qaa (KK.out true (OL.out N8 (.inr h1)))
      have hc':(c.toNat:Int)=48:=by rw[hc];rfl
      have hc2:((c.toNat:Int)!=48)=false:=by rw[hc'];rfl
      have h1':(n:Int)=1:=by omega
      have h2':((n:Int)==1)=true:=by simpa using h1'
      clear h1 hc;go_wp2;refine Yg (by simp[results,Tryz.results122,go_sem];rfl) rfl ?_;exact⟨HR.out,rfl⟩
     ·have HR:=qaa (KK.out false (N7.out hc h1))
      have hc':(c.toNat:Int)=48:=by rw[hc];rfl
      have h1':¬(n:Int)=1:=by omega
      have h2':((n:Int)==1)=false:=by simpa using h1'
      clear hc;go_wp2;refine Yg (by simp[results,Tryz.results122,go_sem];rfl) rfl ?_;exact⟨HR.out,rfl⟩
    ·have HR:=qaa (KK.out true (OL.out N8 (.inl hc)))
     have hc':¬(c.toNat:Int)=48:=fun e=>hc (UInt8.toNat_inj.1 (by show c.toNat=48;omega))
     have hc2:((c.toNat:Int)!=48)=true:=by simpa using hc'
     go_wp2;refine Yg (by simp[results,Tryz.results122,go_sem];rfl) rfl ?_;exact⟨HR.out,rfl⟩
   ·have HR:=qaa (KK.out false (Ew.out N8))
    have Ll:¬(v:Int)≤4294967295:=by omega
    have hvd:decide ((v:Int)≤4294967295)=false:=decide_eq_false Ll;go_wp2;refine Yg (by simp[results,Tryz.results122,go_sem];rfl) rfl ?_;exact⟨HR.out,rfl⟩
theorem qqm (k:Nat) (hk:k≤32) (w:World):Calls Tryz.prog 183 #[.int .i64 k] w fun e w'=>e=.returned (.int .i64 (2^(32-k):Nat))∧w'=w:=by
 rcases k with _|_|_|_|_|_|_|_|_|_|_|_|_|_|_|_|_|_|_|_|_|_|_|_|_|_|_|_|_|_|_|_|_|k
 all_goals first|(exfalso;omega)|skip
 all_goals
  clear hk
  try simp only[Nat.zero_add,Nat.reduceAdd]
  go_enter Tryz.func183,Tryz.ntmps183;go_wp2;go_ret;exact⟨rfl,rfl⟩
theorem qqn (m:Nat) (h:m≤255):(decDigits m).length≤3:=by
 by_cases h1:m<10
 ·rw[decDigits_one h1];simp
 ·rw[qhj m h1]
  by_cases h2:m/10<10
  ·rw[decDigits_one h2];simp
  ·rw[qhj _ h2,decDigits_one (show m/10/10<10 by omega)];simp
theorem qr5 {l:List UInt8} {most:Nat} (hm:most≤255) (h:3<l.length):rn l most=none:=by
 cases e:rn l most with
 |none=>rfl
 |some m=>
  obtain⟨h1,h2⟩:=qey e;have:=qqn m (by omega);rw[←h1] at this;omega
theorem qjz:∀(l:List UInt8) (n:Nat),(∀c∈l,qb5 c)→qci l n<(n+1)*10^l.length
 |[],n,_=>by simp[qci]
 |c::t,n,h=>by
  have hc:=h c (by simp);have h2:c.toNat≤57:=UInt8.le_iff_toNat_le.1 hc.2;have:=qjz t (n*10+(c.toNat-48)) (fun x hx=>h x (by simp[hx]));simp only[qci,List.length_cons,Nat.pow_succ];refine Nat.lt_of_lt_of_le this ?_;rw[Nat.mul_comm (10^t.length) 10,←Nat.mul_assoc];exact Nat.mul_le_mul_right _ (by omega)
theorem qgx (l:List UInt8) (k:Nat) (h:k<l.length):l.take (k+1)=l.take k++[l[k]]:=List.take_succ_eq_append_getElem h
def qfb (l:List UInt8) (most:Nat) (e:Ending):Prop:=∃x:Int,e=.returned (.tuple #[.int .i64 x,.bool (rn l most).isSome])∧∀m,rn l most=some m→x=m
theorem qfb.no {l:List UInt8} {most:Nat} (h:rn l most=none) (x:Int):qfb l most (.returned (.tuple #[.int .i64 x,.bool false])):=⟨x,by rw[h];rfl,fun m e=>by rw[h] at e;cases e⟩
theorem qb2 (l:List UInt8) (most:Nat) (hm:most≤255) (hl:l.length≤140737488351232) (w:World):
 Calls Tryz.prog 150 #[.string ⟨l.toArray⟩,.int .i64 most] w fun e w'=>qfb l most e∧w'=w:=by
 by_cases h0:l=[]
 ·have e:rn l most=none:=if_pos (.inl h0)
  have hz:(l.length:Int)<1:=by rw[h0];decide
  have HE:=qaa e;clear e;go_enter Tryz.func150,Tryz.ntmps150;go_wp2;go_ret2;exact⟨qfb.no HE.out _,rfl⟩
 have hpos:0<l.length:=List.length_pos_iff.2 h0;have hz:¬(l.length:Int)<1:=by omega
 by_cases h3:3<l.length
 ·have e:=qr5 hm h3
  have h3:(3:Int)<l.length:=by omega
  have HE:=qaa e;clear e;go_enter Tryz.func150,Tryz.ntmps150;go_wp2;go_ret2;exact⟨qfb.no HE.out _,rfl⟩
 have hi0:=qdm l 0 hpos;have h3':¬(3:Int)<l.length:=by omega
 by_cases h1:1<l.length∧l.getD 0 0=48
 ·have e:rn l most=none:=if_pos (.inr h1)
  have e2:((⟨l.toArray⟩:ByteArray)[0]'hpos).toNat=48:=by
   rw[hi0];have:=h1.2;simp[List.getD_eq_getElem?_getD,hpos] at this;rw[this];rfl
  have h2:(1:Int)<(l.length:Int):=by omega
  have HE:=qaa e;clear e h1 hi0;go_enter Tryz.func150,Tryz.ntmps150;go_wp2;go_ret2;exact⟨qfb.no HE.out _,rfl⟩
 have HE:Hid (rn l most=qdf most l 0):=if_neg (fun h=>h.elim h0 h1);by_cases h2:1<l.length
 ·have e2:((((⟨l.toArray⟩:ByteArray)[0]'hpos).toNat:Int)==48)=false:=by
   have hx:¬l[0]=48:=fun h=>h1 ⟨h2,by simpa [List.getD_eq_getElem?_getD,hpos] using h⟩
   rw[hi0,beq_eq_false_iff_ne];intro h;exact hx ((qsd _).2.2.2 (by omega))
  have h2:(1:Int)<(l.length:Int):=by omega
  clear h1 hi0;go_enter Tryz.func150,Tryz.ntmps150;go_wp2;go_loopw [6,7] (fun n i wr=>∃k N:Nat,k≤l.length∧i=.int .i64 k∧n=.int .i64 N∧N≤1000∧Hid (N=qci (l.take k) 0)∧Hid (∀c∈l.take k,qb5 c)∧wr=w) (fun _ i _=>l.length-(RowKit.intOf i).toNat)
  case atStart=>exact⟨0,0,Nat.zero_le _,rfl,rfl,by omega,rfl,fun c hc=>by simp at hc,rfl⟩
  case round=>
   obtain⟨k,N,hk,rfl,rfl,hN,HV,HD,hwr⟩:=hrel;have hwr:=hwr.symm;subst hwr;by_cases hlt:k<l.length
   ·have hix:=qdm l k hlt
    have hsn:=qgx l k hlt;have hmem:l[k]∈l:=List.getElem_mem hlt;obtain⟨c,hc⟩:∃c,c=l[k]:=⟨_,rfl⟩;rw[←hc] at hix hsn hmem;obtain⟨u1,u2,_⟩:=qsd c;have hb:c.toNat<256:=c.toNat_lt;have HS:=qaa hsn;have HM:=qaa hmem;clear hc hsn hmem;have hlt':(k:Int)<l.length:=by omega
    by_cases c0:c.toNat<48∨57<c.toNat
    ·have e:rn l most=none:=by
      rw[HE.out];exact qed (fun h=>by have:=h.1 c HM.out;unfold qb5 at this;rw[UInt8.le_iff_toNat_le,UInt8.le_iff_toNat_le] at this;simp at this;omega) (Nat.zero_le _)
     have HN:=qaa e;clear e u1 u2;by_cases c1:(c.toNat:Int)<48
     ·clear c0
      go_wp2;go_ret2;exact⟨qfb.no HN.out _,rfl⟩
     ·have c2:(57:Int)<(c.toNat:Int):=by omega
      clear c0;go_wp2;go_ret2;exact⟨qfb.no HN.out _,rfl⟩
    obtain⟨g,hg⟩:∃g:Nat,(c.toNat:Int)=g+48:=⟨c.toNat-48,by omega⟩;have hgd:c.toNat-48=g:=by omega
    have HD2:Hid (∀x∈l.take (k+1),qb5 x):=by
     intro x hx;rw[HS.out] at hx;rcases List.mem_append.1 hx with hx|hx
     ·exact HD.out x hx
     ·rw[List.mem_singleton.1 hx]
      unfold qb5;rw[UInt8.le_iff_toNat_le,UInt8.le_iff_toNat_le];simp;omega
    have Lm:Hid (N*10+g=qci (l.take (k+1)) 0):=by
     unfold Hid;rw[HS.out,qcq,←HV.out,hgd]
    have hN2:N*10+g≤1000:=by
     rw[Lm.out];have h5:=qjz (l.take (k+1)) 0 HD2.out;have h6:(l.take (k+1)).length≤3:=by rw[List.length_take];omega
     have h7:10^(l.take (k+1)).length≤10^3:=Nat.pow_le_pow_right (by decide) h6;omega
    have d1:¬(c.toNat:Int)<48:=by omega
    have d2:¬(57:Int)<(c.toNat:Int):=by omega
    have w1:IntKind.u8.wrap ((c.toNat:Int)-48)=g:=by rw[IntKind.wrap_u8];omega
    clear u1 u2 c0 hgd;go_wp2;go_roundw
    case rel=>exact⟨k+1,N*10+g,by omega,by go_num,by first|go_num|(congr 1;omega),hN2,Lm,HD2,by first|rfl|trivial⟩
    case measure=>simp[RowKit.intOf];omega
   ·have h8:k=l.length:=by omega
    subst h8;rw[List.take_length] at HV HD;have hlt':¬(l.length:Int)<l.length:=by omega
    have HR:Hid (rn l most=if N≤most then some N else none):=by
     unfold Hid;rw[HE.out,HV.out];split
     ·exact qje HD.out (by assumption)
     ·exact qed (fun h=>by have:=h.2;omega) (Nat.zero_le _)
    by_cases hq:N≤most
    ·have hq':(N:Int)≤most:=by omega
     have HR2:Hid (rn l most=some N):=by unfold Hid;rw[HR.out,if_pos hq]
     clear HR;go_wp2;go_ret2;exact⟨⟨N,by rw[HR2.out];rfl,fun m e=>by rw[HR2.out] at e;cases e;rfl⟩,rfl⟩
    ·have hq':¬(N:Int)≤most:=by omega
     have HR2:Hid (rn l most=none):=by unfold Hid;rw[HR.out,if_neg hq]
     clear HR;go_wp2;go_ret2;exact⟨qfb.no HR2.out _,rfl⟩
 ·have h2:¬(1:Int)<(l.length:Int):=by omega
  clear h1 hi0;go_enter Tryz.func150,Tryz.ntmps150;go_wp2;go_loopw [6,7] (fun n i wr=>∃k N:Nat,k≤l.length∧i=.int .i64 k∧n=.int .i64 N∧N≤1000∧Hid (N=qci (l.take k) 0)∧Hid (∀c∈l.take k,qb5 c)∧wr=w) (fun _ i _=>l.length-(RowKit.intOf i).toNat)
  case atStart=>exact⟨0,0,Nat.zero_le _,rfl,rfl,by omega,rfl,fun c hc=>by simp at hc,rfl⟩
  case round=>
   obtain⟨k,N,hk,rfl,rfl,hN,HV,HD,hwr⟩:=hrel;have hwr:=hwr.symm;subst hwr;by_cases hlt:k<l.length
   ·have hix:=qdm l k hlt
    have hsn:=qgx l k hlt;have hmem:l[k]∈l:=List.getElem_mem hlt;obtain⟨c,hc⟩:∃c,c=l[k]:=⟨_,rfl⟩;rw[←hc] at hix hsn hmem;obtain⟨u1,u2,_⟩:=qsd c;have hb:c.toNat<256:=c.toNat_lt;have HS:=qaa hsn;have HM:=qaa hmem;clear hc hsn hmem;have hlt':(k:Int)<l.length:=by omega
    by_cases c0:c.toNat<48∨57<c.toNat
    ·have e:rn l most=none:=by
      rw[HE.out];exact qed (fun h=>by have:=h.1 c HM.out;unfold qb5 at this;rw[UInt8.le_iff_toNat_le,UInt8.le_iff_toNat_le] at this;simp at this;omega) (Nat.zero_le _)
     have HN:=qaa e;clear e u1 u2;by_cases c1:(c.toNat:Int)<48
     ·clear c0
      go_wp2;go_ret2;exact⟨qfb.no HN.out _,rfl⟩
     ·have c2:(57:Int)<(c.toNat:Int):=by omega
      clear c0;go_wp2;go_ret2;exact⟨qfb.no HN.out _,rfl⟩
    obtain⟨g,hg⟩:∃g:Nat,(c.toNat:Int)=g+48:=⟨c.toNat-48,by omega⟩;have hgd:c.toNat-48=g:=by omega
    have HD2:Hid (∀x∈l.take (k+1),qb5 x):=by
     intro x hx;rw[HS.out] at hx;rcases List.mem_append.1 hx with hx|hx
     ·exact HD.out x hx
     ·rw[List.mem_singleton.1 hx]
      unfold qb5;rw[UInt8.le_iff_toNat_le,UInt8.le_iff_toNat_le];simp;omega
    have Lm:Hid (N*10+g=qci (l.take (k+1)) 0):=by
     unfold Hid;rw[HS.out,qcq,←HV.out,hgd]
    have hN2:N*10+g≤1000:=by
     rw[Lm.out];have h5:=qjz (l.take (k+1)) 0 HD2.out;have h6:(l.take (k+1)).length≤3:=by rw[List.length_take];omega
     have h7:10^(l.take (k+1)).length≤10^3:=Nat.pow_le_pow_right (by decide) h6;omega
    have d1:¬(c.toNat:Int)<48:=by omega
    have d2:¬(57:Int)<(c.toNat:Int):=by omega
    have w1:IntKind.u8.wrap ((c.toNat:Int)-48)=g:=by rw[IntKind.wrap_u8];omega
    clear u1 u2 c0 hgd;go_wp2;go_roundw
    case rel=>exact⟨k+1,N*10+g,by omega,by go_num,by first|go_num|(congr 1;omega),hN2,Lm,HD2,by first|rfl|trivial⟩
    case measure=>simp[RowKit.intOf];omega
   ·have h8:k=l.length:=by omega
    subst h8;rw[List.take_length] at HV HD;have hlt':¬(l.length:Int)<l.length:=by omega
    have HR:Hid (rn l most=if N≤most then some N else none):=by
     unfold Hid;rw[HE.out,HV.out];split
     ·exact qje HD.out (by assumption)
     ·exact qed (fun h=>by have:=h.2;omega) (Nat.zero_le _)
    by_cases hq:N≤most
    ·have hq':(N:Int)≤most:=by omega
     have HR2:Hid (rn l most=some N):=by unfold Hid;rw[HR.out,if_pos hq]
     clear HR;go_wp2;go_ret2;exact⟨⟨N,by rw[HR2.out];rfl,fun m e=>by rw[HR2.out] at e;cases e;rfl⟩,rfl⟩
    ·have hq':¬(N:Int)≤most:=by omega
     have HR2:Hid (rn l most=none):=by unfold Hid;rw[HR.out,if_neg hq]
     clear HR;go_wp2;go_ret2;exact⟨qfb.no HR2.out _,rfl⟩
theorem qge {l p r:List UInt8} {c:UInt8} (h:qbg c l=some (p,r)) (hl:l.length≤140737488351232) (w:World):Calls Tryz.prog 148 #[.string ⟨l.toArray⟩,.int .u8 c.toNat] w fun e w'=>e=.returned (.tuple #[.string ⟨p.toArray⟩,.string ⟨r.toArray⟩,.bool true])∧Below w.heap.size w w':=by
 have e1:=qe9 h;have e2:=qfa h;have hc:=qa2 h;obtain⟨hs,hn⟩:=qdl h;have hat:∀k (hk:k<l.length),(k<p.length→l[k]≠c)∧(k=p.length→l[k]=c):=by
  intro k hk;subst hs;refine⟨fun h1 h2=>?_,fun h1=>?_⟩
  ·rw[List.getElem_append_left h1] at h2
   exact hn (h2▸List.getElem_mem h1)
  ·subst h1;simp
 have HA:=qaa hat;clear hat hs hn h;go_enter Tryz.func148,Tryz.ntmps148;go_wp2;go_loopw [7] (fun i wr=>∃k:Nat,k≤p.length∧i=.int .i64 k∧wr=w) (fun i _=>l.length-(RowKit.intOf i).toNat)
 case atStart=>exact⟨0,Nat.zero_le _,rfl,rfl⟩
 case round=>
  obtain⟨k,hk,rfl,hwr⟩:=hrel;have hwr:=hwr.symm;subst hwr;have hlt:k<l.length:=by omega
  have hlt':(k:Int)<l.length:=by omega
  have hix:=qdm l k hlt;obtain⟨a1,a2⟩:=HA.out k hlt;by_cases hkp:k<p.length
  ·have hne:(((⟨l.toArray⟩:ByteArray)[k]'hlt).toNat==c.toNat)=false:=by
    rw[hix,beq_eq_false_iff_ne];exact fun h=>a1 hkp (UInt8.toNat_inj.1 h)
   have hne':((((⟨l.toArray⟩:ByteArray)[k]'hlt).toNat:Int)==(c.toNat:Int))=false:=by
    rw[beq_eq_false_iff_ne] at hne ⊢;omega
   clear hne a1 a2 hix e1 e2;go_wp2;go_roundw
   case rel=>exact⟨k+1,by omega,by go_num,by first|rfl|trivial⟩
   case measure=>simp[RowKit.intOf];omega
  ·have hkp:k=p.length:=by omega
   have heq:((⟨l.toArray⟩:ByteArray)[k]'hlt).toNat=c.toNat:=by rw[hix,a2 hkp]
   subst hkp;clear a1 a2 hix;have z1:(0:Int)≤p.length:=by omega
   have z2:(p.length:Int)≤l.length:=by omega
   have z3:(0:Int)≤p.length+1:=by omega
   have z4:(p.length+1:Int)≤l.length:=by omega
   clear hc;go_wp2;go_region;go_wp2;go_ret3;exact⟨rfl,(Below.refl _ _).drew⟩
theorem qgf {l:List UInt8} {c:UInt8} (h:qbg c l=none) (hl:l.length≤140737488351232) (w:World):Calls Tryz.prog 148 #[.string ⟨l.toArray⟩,.int .u8 c.toNat] w fun e w'=>e=.returned (.tuple #[.string ⟨l.toArray⟩,.string ⟨#[]⟩,.bool false])∧Below w.heap.size w w':=by
 have hn:c∉l:=qif.1 h;have hat:∀k (hk:k<l.length),l[k]≠c:=fun k hk e=>hn (e▸List.getElem_mem hk)
 have HA:=qaa hat;clear hat hn h;go_enter Tryz.func148,Tryz.ntmps148;go_wp2;go_loopw [7] (fun i wr=>∃k:Nat,k≤l.length∧i=.int .i64 k∧wr=w) (fun i _=>l.length-(RowKit.intOf i).toNat)
 case atStart=>exact⟨0,Nat.zero_le _,rfl,rfl⟩
 case round=>
  obtain⟨k,hk,rfl,hwr⟩:=hrel;have hwr:=hwr.symm;subst hwr;by_cases hlt:k<l.length
  ·have hlt':(k:Int)<l.length:=by omega
   have hix:=qdm l k hlt;have hne':((((⟨l.toArray⟩:ByteArray)[k]'hlt).toNat:Int)==(c.toNat:Int))=false:=by
    rw[hix,beq_eq_false_iff_ne];exact fun h=>HA.out k hlt (UInt8.toNat_inj.1 (by omega))
   clear hix;go_wp2;go_roundw
   case rel=>exact⟨k+1,by omega,by go_num,by first|rfl|trivial⟩
   case measure=>simp[RowKit.intOf];omega
  ·have hlt':¬(k:Int)<l.length:=by omega
   go_wp2;go_ret3;exact⟨rfl,Below.refl _ _⟩
theorem qgy {l:List UInt8} (h:qbf l=none):qrj l=0∧qrk l=30:=by unfold qrj qrk;rw[h];exact⟨rfl,rfl⟩
theorem qe2 {l:List UInt8} {m:Nat} (h:qbf l=some m):qrj l=m∧qrk l=0:=by unfold qrj qrk;rw[h];exact⟨rfl,rfl⟩
theorem qem (l:List UInt8) (most:Nat):rn l most=none∨∃m,rn l most=some m:=by cases rn l most with|none=>exact .inl rfl|some m=>exact .inr ⟨m,rfl⟩
theorem qen (c:UInt8) (l:List UInt8):qbg c l=none∨∃p r,qbg c l=some (p,r):=by cases qbg c l with|none=>exact .inl rfl|some m=>exact .inr ⟨m.1,m.2,rfl⟩
theorem qk1 {l:List UInt8} (hl:l.length≤140737488351232) (h:rn l 255=none) (w:World):Calls Tryz.prog 150 #[.string ⟨l.toArray⟩,.int .i64 255] w fun e w'=>(∃x:Int,e=.returned (.tuple #[.int .i64 x,.bool false]))∧w'=w:=
 (qb2 l 255 (by decide) hl w).mono fun e w' ⟨⟨x,h1,_⟩,h2⟩=>⟨⟨x,by rw[h1,h];rfl⟩,h2⟩
theorem qhr {l:List UInt8} {m:Nat} (hl:l.length≤140737488351232) (h:rn l 255=some m) (w:World):Calls Tryz.prog 150 #[.string ⟨l.toArray⟩,.int .i64 255] w fun e w'=>e=.returned (.tuple #[.int .i64 m,.bool true])∧w'=w:=
 (qb2 l 255 (by decide) hl w).mono fun e w' ⟨⟨x,h1,h3⟩,h2⟩=>⟨by rw[h1,h,h3 m h];rfl,h2⟩
theorem qt3 {l:List UInt8} (h:qbg 46 l=none) (hl:l.length≤140737488351232) (w:World):Calls Tryz.prog 148 #[.string ⟨l.toArray⟩,.int .u8 46] w fun e w'=>e=.returned (.tuple #[.string ⟨l.toArray⟩,.string ⟨#[]⟩,.bool false])∧Below w.heap.size w w':=qgf h hl w
theorem qt4 {l p r:List UInt8} (h:qbg 46 l=some (p,r)) (hl:l.length≤140737488351232) (w:World):Calls Tryz.prog 148 #[.string ⟨l.toArray⟩,.int .u8 46] w fun e w'=>e=.returned (.tuple #[.string ⟨p.toArray⟩,.string ⟨r.toArray⟩,.bool true])∧Below w.heap.size w w':=qge h hl w
theorem qe6 (l:List UInt8) (hl:l.length≤140737488351232) (w:World):Calls Tryz.prog 149 #[.string ⟨l.toArray⟩] w fun e w'=>e=.returned (.tuple #[.int .i64 (qrj l),.int .i64 (qrk l)])∧Below w.heap.size w w':=by
 have no:qbf l=none→∀w',Below w.heap.size w w'→(Ending.returned (.tuple #[.int .i64 0,.int .i64 30])=.returned (.tuple #[.int .i64 (qrj l),.int .i64 (qrk l)])∧Below w.heap.size w w'):=fun h w' x=>⟨by rw[(qgy h).1,(qgy h).2],x⟩
 have NO:=qaa no;have yes:∀m,qbf l=some m→∀w',Below w.heap.size w w'→(Ending.returned (.tuple #[.int .i64 (m:Nat),.int .i64 0])=.returned (.tuple #[.int .i64 (qrj l),.int .i64 (qrk l)])∧Below w.heap.size w w'):=fun m h w' x=>⟨by rw[(qe2 h).1,(qe2 h).2],x⟩
 have YES:=qaa yes;clear no yes;have B0:=qaa (Below.refl w.heap.size w);rcases qen 46 l with h1|⟨p1,l1,h1⟩
 ·have HN:Hid (qbf l=none):=by unfold Hid qbf;rw[h1];rfl
  have hc:=fun w=>qt3 h1 hl w
  clear h1;go_enter Tryz.func149,Tryz.ntmps149;go_wp2;refine wp_loop_rounds 1 ?_;rw[rounds_succ];go_wp2_with (go_at_call 148;refine(hc _).mono ?_;rintro e w1 ⟨rfl,x1⟩;have X1:=qaa (bt B0.out x1 (Nat.le_refl _));clear x1);go_ret2;exact NO.out HN.out _ X1.out
 have k1:=fun w=>qt4 h1 hl w
 have z1:=qa2 h1;have hl1:l1.length≤140737488351232:=by omega
 have hp1:p1.length≤140737488351232:=by omega
 rcases qem p1 255 with n1|⟨m1,n1⟩
 ·have HN:Hid (qbf l=none):=by
   unfold Hid qbf;rw[h1];simp only[Option.bind_some,n1,Option.bind_none];cases qbg 46 l1 with
   |none=>rfl
   |some q=>
    show((qbg 46 q.2).bind fun _=>none)=none;cases qbg 46 q.2<;>rfl
  have d1:=fun w=>qk1 hp1 n1 w
  clear h1 n1 z1;go_enter Tryz.func149,Tryz.ntmps149;go_wp2;refine wp_loop_rounds 1 ?_;rw[rounds_succ];go_wp2_with (first
   |(go_at_call 148;refine(k1 _).mono ?_;rintro e w1 ⟨rfl,x1⟩;have X1:=qaa (bt B0.out x1 (Nat.le_refl _));clear x1)
   |(go_at_call 150;refine(d1 _).mono ?_;rintro e w2 ⟨⟨x,rfl⟩,hw2⟩;subst hw2))
  go_ret2;exact NO.out HN.out _ X1.out
 have d1:=fun w=>qhr hp1 n1 w
 have b1:=qgh n1;rcases qen 46 l1 with h2|⟨p2,l2,h2⟩
 ·have HN:Hid (qbf l=none):=by unfold Hid qbf;rw[h1];simp only[Option.bind_some,h2,Option.bind_none]
  have k2:=fun w=>qt3 h2 hl1 w
  clear h1 h2 n1 z1;go_enter Tryz.func149,Tryz.ntmps149;go_wp2;refine wp_loop_rounds 2 ?_;rw[rounds_succ];go_wp2_with (first
   |(go_at_call 148;refine(k1 w).mono ?_;rintro e w1 ⟨rfl,x1⟩;have X1:=qaa (bt B0.out x1 (Nat.le_refl _));clear x1)
   |(go_at_call 150;refine(d1 _).mono ?_;rintro e w2 ⟨rfl,hw2⟩;subst hw2))
  rw[rounds_succ];go_wp2_with (first
   |(go_at_call 148;refine(k2 _).mono ?_;rintro e w3 ⟨rfl,x3⟩;have X3:=qaa (bt X1.out x3 (Nat.le_refl _));clear x3))
  go_ret2;exact NO.out HN.out _ X3.out
 have k2:=fun w=>qt4 h2 hl1 w
 have z2:=qa2 h2;have hl2:l2.length≤140737488351232:=by omega
 have hp2:p2.length≤140737488351232:=by omega
 rcases qem p2 255 with n2|⟨m2,n2⟩
 ·have HN:Hid (qbf l=none):=by
   unfold Hid qbf;rw[h1];simp only[Option.bind_some,h2,n1,n2,Option.bind_none];cases qbg 46 l2<;>rfl
  have d2:=fun w=>qk1 hp2 n2 w
  clear h1 h2 n1 n2 z1 z2;go_enter Tryz.func149,Tryz.ntmps149;go_wp2;refine wp_loop_rounds 2 ?_;rw[rounds_succ];go_wp2_with (first
   |(go_at_call 148;refine(k1 w).mono ?_;rintro e w1 ⟨rfl,x1⟩;have X1:=qaa (bt B0.out x1 (Nat.le_refl _));clear x1)
   |(go_at_call 150;refine(d1 _).mono ?_;rintro e w2 ⟨rfl,hw2⟩;subst hw2))
  rw[rounds_succ];go_wp2_with (first
   |(go_at_call 148;refine(k2 _).mono ?_;rintro e w3 ⟨rfl,x3⟩;have X3:=qaa (bt X1.out x3 (Nat.le_refl _));clear x3)
   |(go_at_call 150;refine(d2 _).mono ?_;rintro e w4 ⟨⟨x,rfl⟩,hw4⟩;subst hw4))
  go_ret2;exact NO.out HN.out _ X3.out
 have d2:=fun w=>qhr hp2 n2 w
 have b2:=qgh n2;rcases qen 46 l2 with h3|⟨p3,l3,h3⟩
 ·have HN:Hid (qbf l=none):=by unfold Hid qbf;rw[h1];simp only[Option.bind_some,h2,h3,Option.bind_none]
  have k3:=fun w=>qt3 h3 hl2 w
  clear h1 h2 h3 n1 n2 z1 z2;go_enter Tryz.func149,Tryz.ntmps149;go_wp2;refine wp_loop_rounds 3 ?_;rw[rounds_succ];go_wp2_with (first
   |(go_at_call 148;refine(k1 w).mono ?_;rintro e w1 ⟨rfl,x1⟩;have X1:=qaa (bt B0.out x1 (Nat.le_refl _));clear x1)
   |(go_at_call 150;refine(d1 _).mono ?_;rintro e w2 ⟨rfl,hw2⟩;subst hw2))
  rw[rounds_succ];go_wp2_with (first
   |(go_at_call 148;refine(k2 _).mono ?_;rintro e w3 ⟨rfl,x3⟩;have X3:=qaa (bt X1.out x3 (Nat.le_refl _));clear x3)
   |(go_at_call 150;refine(d2 _).mono ?_;rintro e w4 ⟨rfl,hw4⟩;subst hw4))
  rw[rounds_succ];go_wp2_with (first
   |(go_at_call 148;refine(k3 _).mono ?_;rintro e w5 ⟨rfl,x5⟩;have X5:=qaa (bt X3.out x5 (Nat.le_refl _));clear x5))
  go_ret2;exact NO.out HN.out _ X5.out
 have k3:=fun w=>qt4 h3 hl2 w
 have z3:=qa2 h3;have hl3:l3.length≤140737488351232:=by omega
 have hp3:p3.length≤140737488351232:=by omega
 rcases qem p3 255 with n3|⟨m3,n3⟩
 ·have HN:Hid (qbf l=none):=by
   unfold Hid qbf;rw[h1];simp only[Option.bind_some,h2,h3,n1,n2,n3,Option.bind_none]
  have d3:=fun w=>qk1 hp3 n3 w
  clear h1 h2 h3 n1 n2 n3 z1 z2 z3;go_enter Tryz.func149,Tryz.ntmps149;go_wp2;refine wp_loop_rounds 3 ?_;rw[rounds_succ];go_wp2_with (first
   |(go_at_call 148;refine(k1 w).mono ?_;rintro e w1 ⟨rfl,x1⟩;have X1:=qaa (bt B0.out x1 (Nat.le_refl _));clear x1)
   |(go_at_call 150;refine(d1 _).mono ?_;rintro e w2 ⟨rfl,hw2⟩;subst hw2))
  rw[rounds_succ];go_wp2_with (first
   |(go_at_call 148;refine(k2 _).mono ?_;rintro e w3 ⟨rfl,x3⟩;have X3:=qaa (bt X1.out x3 (Nat.le_refl _));clear x3)
   |(go_at_call 150;refine(d2 _).mono ?_;rintro e w4 ⟨rfl,hw4⟩;subst hw4))
  rw[rounds_succ];go_wp2_with (first
   |(go_at_call 148;refine(k3 _).mono ?_;rintro e w5 ⟨rfl,x5⟩;have X5:=qaa (bt X3.out x5 (Nat.le_refl _));clear x5)
   |(go_at_call 150;refine(d3 _).mono ?_;rintro e w6 ⟨⟨x,rfl⟩,Lp⟩;subst Lp))
  go_ret2;exact NO.out HN.out _ X5.out
 have d3:=fun w=>qhr hp3 n3 w
 have b3:=qgh n3;have h4:=qfz h1 h2 h3;rw[n1,n2,n3] at h4;simp only[Option.bind_some] at h4;clear h1 h2 h3 n1 n2 n3 z1 z2 z3;rcases qem l3 255 with n4|⟨m4,n4⟩
 ·have HN:Hid (qbf l=none):=by unfold Hid;rw[h4,n4];rfl
  have d4:=fun w=>qk1 hl3 n4 w
  clear h4 n4;go_enter Tryz.func149,Tryz.ntmps149;go_wp2;refine wp_loop_rounds 4 ?_;rw[rounds_succ];go_wp2_with (first
   |(go_at_call 148;refine(k1 w).mono ?_;rintro e w1 ⟨rfl,x1⟩;have X1:=qaa (bt B0.out x1 (Nat.le_refl _));clear x1)
   |(go_at_call 150;refine(d1 _).mono ?_;rintro e w2 ⟨rfl,hw2⟩;subst hw2))
  rw[rounds_succ];go_wp2_with (first
   |(go_at_call 148;refine(k2 _).mono ?_;rintro e w3 ⟨rfl,x3⟩;have X3:=qaa (bt X1.out x3 (Nat.le_refl _));clear x3)
   |(go_at_call 150;refine(d2 _).mono ?_;rintro e w4 ⟨rfl,hw4⟩;subst hw4))
  rw[rounds_succ];go_wp2_with (first
   |(go_at_call 148;refine(k3 _).mono ?_;rintro e w5 ⟨rfl,x5⟩;have X5:=qaa (bt X3.out x5 (Nat.le_refl _));clear x5)
   |(go_at_call 150;refine(d3 _).mono ?_;rintro e w6 ⟨rfl,Lp⟩;subst Lp))
  rw[rounds_succ];go_wp2_with (first
   |(go_at_call 150;refine(d4 _).mono ?_;rintro e w8 ⟨⟨x,rfl⟩,hw8⟩;subst hw8))
  go_ret2;exact NO.out HN.out _ X5.out
 ·have HN:Hid (qbf l=some (W4 m1 m2 m3 m4)):=by unfold Hid;rw[h4,n4];rfl
  have d4:=fun w=>qhr hl3 n4 w
  have b4:=qgh n4;clear h4 n4;go_enter Tryz.func149,Tryz.ntmps149;go_wp2;refine wp_loop_rounds 5 ?_;rw[rounds_succ];go_wp2_with (first
   |(go_at_call 148;refine(k1 w).mono ?_;rintro e w1 ⟨rfl,x1⟩;have X1:=qaa (bt B0.out x1 (Nat.le_refl _));clear x1)
   |(go_at_call 150;refine(d1 _).mono ?_;rintro e w2 ⟨rfl,hw2⟩;subst hw2))
  rw[rounds_succ];go_wp2_with (first
   |(go_at_call 148;refine(k2 _).mono ?_;rintro e w3 ⟨rfl,x3⟩;have X3:=qaa (bt X1.out x3 (Nat.le_refl _));clear x3)
   |(go_at_call 150;refine(d2 _).mono ?_;rintro e w4 ⟨rfl,hw4⟩;subst hw4))
  rw[rounds_succ];go_wp2_with (first
   |(go_at_call 148;refine(k3 _).mono ?_;rintro e w5 ⟨rfl,x5⟩;have X5:=qaa (bt X3.out x5 (Nat.le_refl _));clear x5)
   |(go_at_call 150;refine(d3 _).mono ?_;rintro e w6 ⟨rfl,Lp⟩;subst Lp))
  rw[rounds_succ];go_wp2_with (first
   |(go_at_call 150;refine(d4 _).mono ?_;rintro e w8 ⟨rfl,hw8⟩;subst hw8))
  rw[rounds_succ];go_wp2;go_ret2;have:=YES.out _ HN.out _ X5.out;refine⟨?_,this.2⟩;rw[←this.1];unfold W4;exact congrArg (fun z=>Ending.returned (.tuple #[.int .i64 z,.int .i64 0])) (by omega)
end Go.Proofs.YtlmhofjiobmodaaGreatDoor

