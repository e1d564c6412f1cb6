/-
  The document's parted by its contract: states numbered anew, and the numbers of pairs all 0 again. Condition: states, parts and columns that are.
-/
import Derived.BigRegion
import Derived.Test.YtdgoilkgplnhfaaGreatJ38
import Derived.Test.YtdgoilkgplnhfaaGreatJ30
import Derived.Deep.RegionWith
import Derived.Deep.DeepCutAuto
namespace Go.Proofs.YtdgoilkgplnhfaaGreat
open Go.RowKit Go.Lib
def kyP (PL OL NX:List Nat) (W c s:Nat):Nat:=gN PL s*256+gN OL (gN NX (s*W+c))
theorem qkb {L:List Nat} {n:Nat} (hl:L.length=n) (h:∀x,gN L x=0):L=List.replicate n 0:=by
 rw[List.eq_replicate_iff];refine⟨hl,fun b hb=>?_⟩;obtain⟨i,hi,rfl⟩:=List.getElem_of_mem hb;rw[←qah hi];exact h i
def zer (n:Nat):List Nat:=List.replicate n 0
theorem qhf (n:Nat):(zer n).length=n:=List.length_replicate
theorem qkc (n i:Nat):gN (zer n) i=0:=qg0 n i
structure ZrS (l:List Nat) (key:Nat→Nat) (NU:List Nat) (j:Nat) (N:List Nat):Prop where
 len:N.length=NU.length
 val:∀x,gN N x≠0→gN NU x≠0∧∀i,i<j→key (gN l i)≠x
theorem ZrS.next {l NU N:List Nat} {key:Nat→Nat} {j:Nat} (h:ZrS l key NU j N) (hk:key (gN l j)<NU.length):ZrS l key NU (j+1) (N.set (key (gN l j)) 0):=by
 refine⟨by rw[List.length_set];exact h.len,fun x hx=>?_⟩;rw[qbp (by rw[h.len];exact hk)] at hx;by_cases e:x=key (gN l j)
 ·rw[if_pos e] at hx;exact absurd rfl hx
 ·rw[if_neg e] at hx
  obtain⟨h1,h2⟩:=h.val x hx;refine⟨h1,fun i hi=>?_⟩;rcases Nat.lt_or_ge i j with h3|h3
  ·exact h2 i h3
  ·rw[show i=j by omega];exact fun h=>e h.symm
theorem ZrS.done {l NU N PL:List Nat} {key:Nat→Nat} {k m:Nat} (h:ZrS l key NU l.length N) (hk:KnS l key k PL NU m) (hkl:k≤l.length):∀x,gN N x=0:=fun x=>by
 apply Classical.byContradiction;intro hx;obtain⟨h1,h2⟩:=h.val x hx;obtain⟨i,h3,h4⟩:=hk.c x h1;exact h2 i (by omega) h4
set_option maxRecDepth 100000 in
set_option maxHeartbeats 8000000 in
theorem ql2 (bs:By) (na oo la pa oa:Option Addr) (nc ol oc lc pc oc' W c n gn:Nat) (NX l PL OL:List Nat) (R1:List VR) (w0 w:World) (hxl:NX.length≤16777216) (hn:n≤65536) (hll:l.length≤n) (hPL:PL.length=n) (hOL:OL.length=n)
 (hky:∀i,i<l.length→gN l i<n∧gN l i*W+c<NX.length∧gN NX (gN l i*W+c)<n∧gN PL (gN l i)<256∧gN OL (gN NX (gN l i*W+c))<256)
 (hF:Fr w0 ((.slice (some ⟨gn,0,none⟩) 65536 65536,3,qab (zer 65536))::R1) w)
 (hrd:∀V x y NU,Fr w0 (x::y::(.slice (some ⟨gn,0,none⟩) 65536 65536,3,qab NU)::R1) V→NAt V na NX∧NAt V la l∧NAt V pa PL∧NAt V oa OL):
 Calls Tryz.prog 83 #[auV bs na NX.length nc oo ol oc,.slice la l.length lc,.slice pa n pc,.slice oa n oc',.slice (some ⟨gn,0,none⟩) 65536 65536,.int .i64 (W:Nat),.int .i64 (c:Nat)] w fun e w'=>∃og m:Nat,e=.returned (.tuple #[.slice (some ⟨og,0,none⟩) n n,.int .i64 (m:Nat)])∧∃QL:List Nat,Fr w0 ((.slice (some ⟨og,0,none⟩) n n,3,qab QL)::(.slice (some ⟨gn,0,none⟩) 65536 65536,3,qab (zer 65536))::R1) w'∧QL.length=n∧∃NU k,k≤l.length∧KnS l (kyP PL OL NX W c) k QL NU m∧((m≤256∧k=l.length)∨m=257):=by
 obtain⟨i3,hi3,hz30,hz31,hz32⟩:=info_parts Tryz.info3n;have HKY:=qaa hky;have HRD:=qaa hrd;have F2:=qaa (hF.box 24 [.string ⟨bs.toArray⟩,.slice na NX.length nc,.slice oo ol oc] (by simp[maxLen]));obtain⟨key,hkE⟩:∃key,Hid (key=kyP PL OL NX W c):=⟨_,rfl⟩;rw[←hkE.out];clear hky hrd hF;unfold auV;go_enter Tryz.func83,Tryz.ntmps83;go_upto_region 1 with fail
 obtain⟨w2,hw2⟩:∃w2,w2=w.alloc (.cells #[.string ⟨bs.toArray⟩,.slice na NX.length nc,.slice oo ol oc] 24):=⟨_,rfl⟩;obtain⟨bx,hbx⟩:∃bx,bx=w.heap.size:=⟨_,rfl⟩;rw[←hw2,←hbx] at F2 ⊢;clear hw2 hbx;go_upto_region 2 with(at_make;refine wpList_make_full _ rfl (.tmp 22) (.tmp 22) 22 rfl w0.heap.size 3 i3 (.int .i64 0) 1 Tryz.underlying22 hi3 hz30 hz31 .i64 .i64 _ _ n rfl rfl rfl rfl (by rw[hz32];omega) (by unfold maxLen;omega) F2.out.bel.size ?_;intro w3 m1 m2;have F3:=qaa (F2.out.mkN m1 m2);clear m1 m2)
 obtain⟨og,hog⟩:∃og,og=w2.heap.size:=⟨_,rfl⟩;rw[←hog] at F3 ⊢;clear hog F2;have K0:Hid (KnS l key 0 (List.replicate n 0) (zer 65536) 0):=KnS.start (qkc _);go_wp2;go_loopg [17,18] (l.length+1) (fun g x y wr=>∃(k m:Nat) (QL NU:List Nat),y=.int .i64 (k:Nat)∧x=.int .i64 (m:Nat)∧k≤l.length∧m≤257∧Hid (Fr w0 ((.slice (some ⟨og,0,none⟩) n n,3,qab QL)::(.slice (some ⟨bx,0,none⟩) 3 3,24,[.string ⟨bs.toArray⟩,.slice na NX.length nc,.slice oo ol oc])::(.slice (some ⟨gn,0,none⟩) 65536 65536,3,qab NU)::R1) wr)∧Hid (KnS l key k QL NU m)∧QL.length=n∧NU.length=65536∧l.length-k<g)
 case atStart=>exact⟨0,0,_,_,rfl,rfl,by omega,by omega,F3,K0,by rw[List.length_replicate],qhf _,by omega⟩
 case round=>
  obtain⟨k,m,QL,NU,rfl,rfl,hk1,hm,F,S,hQL,hNU,hg⟩:=hrel;have HG:=qaa hg;clear hg F3 K0;by_cases hgo:k<l.length∧m≤256
  ·obtain⟨hk,hm6⟩:=hgo
   have hk':(k:Int)<(l.length:Int):=by omega
   have hm':(m:Int)≤256:=by omega
   obtain⟨h1,h2,h3,h4,h5⟩:=HKY.out k hk;obtain⟨kx,kl,kp,ko⟩:=HRD.out _ _ _ _ F.out;have c1:=(F.out.slot (i:=1) (by simp) rfl (k:=1) (by simp)).1;simp only[List.getElem_cons_succ,List.getElem_cons_zero] at c1;obtain⟨lb,loff,rfl,-,-⟩:=kl.get hk;have sl:=kl.atG hk;obtain⟨pb,poff,rfl,-,-⟩:=kp.get (i:=gN l k) (by omega);have sp:=kp.atG (i:=gN l k) (by omega);obtain⟨xb,xoff,rfl,-,-⟩:=kx.get h2;have sx:=kx.atG h2;obtain⟨ob,ooff,rfl,-,-⟩:=ko.get (i:=gN NX (gN l k*W+c)) (by omega);have so:=ko.atG (i:=gN NX (gN l k*W+c)) (by omega);have hke:key (gN l k)=gN PL (gN l k)*256+gN OL (gN NX (gN l k*W+c)):=by rw[hkE.out];rfl
   have HLC:Hid (∀V x y NU,Fr w0 (x::y::(.slice (some ⟨gn,0,none⟩) 65536 65536,3,qab NU)::R1) V→V.cell? ⟨lb,loff+k,none⟩=some (.int .i64 ((gN l k:Nat):Int))):=fun V x y NU F=>(HRD.out V x y NU F).2.1.atG hk
   have hqm:=S.out.le (key (gN l k));have HOLD:Hid (gN NU (key (gN l k))≠0→KnS l key (k+1) (QL.set (gN l k) (gN NU (key (gN l k))-1)) NU m):=fun h=>S.out.old (by omega) h
   have HNEW:Hid (gN NU (key (gN l k))=0→KnS l key (k+1) (QL.set (gN l k) m) (NU.set (key (gN l k)) (m+1)) (m+1)):=fun h=>S.out.new (by omega) (by omega) h
   clear kx kl kp ko;generalize key (gN l k)=o at *;generalize gN OL (gN NX (gN l k*W+c))=q at *;generalize gN NX (gN l k*W+c)=t at *;generalize gN PL (gN l k)=p at *;generalize gN l k=s at *;have f1:IntKind.i64.wrap ((s:Int)*(W:Int))=((s*W:Nat):Int):=by rw[show(s:Int)*(W:Int)=((s*W:Nat):Int) by simp];exact qak _ (by omega)
   generalize hmm:s*W=y at *;have f3:IntKind.i64.wrap ((y:Int)+(c:Int))=((y+c:Nat):Int):=by rw[show(y:Int)+(c:Int)=((y+c:Nat):Int) by simp];exact qak _ (by omega)
   have f4:IntKind.i64.wrap ((p:Int)*256)=(p:Int)*256:=by rw[show(p:Int)*256=((p*256:Nat):Int) by simp];exact qak _ (by omega)
   have f5:IntKind.i64.wrap ((p:Int)*256+(q:Int))=(o:Int):=by rw[show(p:Int)*256+(q:Int)=(o:Int) by omega];exact qak _ (by omega)
   have hln:(y:Int)+(c:Int)<(NX.length:Int):=by omega
   have hlz:(0:Int)≤(y:Int)+(c:Int):=by omega
   have hlt:((y:Int)+(c:Int)).toNat=y+c:=by omega
   have hs':(s:Int)<(n:Int):=by omega
   have ht':(t:Int)<(n:Int):=by omega
   have hoo:o<65536:=by omega
   clear hmm hke;go_wp2;go_quiet (fail);obtain⟨wq,hwq⟩:∃wq,wq=wr.drewN nq:=⟨_,rfl⟩;have FQ:=qaa (F.out.drew nq);rw[←hwq] at FQ ⊢;clear hwq c1 sl sp sx so f1 f3 f4 f5 hln hlz hlt F S;obtain⟨s0,s1⟩:=FQ.out.slotN (i:=2) (by simp) rfl (k:=o) (by omega);obtain⟨s2,s3⟩:=FQ.out.slotN (i:=0) (by simp) rfl (k:=s) (by omega);have hoi:(o:Int)<65536:=by omega
   obtain⟨q,hq⟩:∃q,Hid (q=gN NU o):=⟨_,rfl⟩;rw[←hq.out] at s0 HOLD HNEW hqm;by_cases hq0:q=0
   ·subst hq0
    have S2:=qaa (HNEW.out rfl);have F2:=qaa (FQ.out.storeN (i:=2) (by simp) rfl o (m+1));have ec:(((m+1:Nat):Int))=(m:Int)+1:=by simp
    rw[ec] at F2;have f1:IntKind.i64.wrap ((m:Int)+1)=(m:Int)+1:=by rw[←ec];exact qak _ (by omega)
    clear HOLD HNEW;go_upto_region 10 with fail
    obtain⟨wu,hwu⟩:∃wu,wu=wq.setCell ⟨gn,o,none⟩ (.int .i64 ((m:Int)+1)):=⟨_,rfl⟩;rw[←hwu] at F2 ⊢;clear hwu s0 s1 s2 s3 FQ;have sl:=HLC.out wu _ _ _ F2.out;obtain⟨s0,_⟩:=F2.out.slotN (i:=2) (by simp) rfl (k:=o) (by rw[List.length_set];omega);rw[qbp (by omega),if_pos rfl,ec] at s0;obtain⟨s2,s3⟩:=F2.out.slotN (i:=0) (by simp) rfl (k:=s) (by omega);have f2:IntKind.i64.wrap ((m:Int)+1-1)=(m:Int):=by rw[show(m:Int)+1-1=(m:Int) by omega];exact qak _ (by omega)
    have F3:=qaa ((F2.out.storeN (i:=0) (by simp) rfl s m).below (Below.refl _ _).drew);go_region
    all_goals
     go_wp2;go_roundg (l.length-(k+1)+1)
     case measure=>have:=HG.out;omega
     case rel=>exact⟨k+1,m+1,_,_,by first|rfl|go_num|(congr 1;omega),by first|rfl|simp,by omega,by omega,F3,S2,by rw[List.length_set];exact hQL,by rw[List.length_set];exact hNU,by omega⟩
   ·have hq1:((q:Int)==0)=false:=by simp;omega
    have hq2:¬(q:Int)=0:=by omega
    have S2:=qaa (HOLD.out hq0);have F3:=qaa ((FQ.out.storeN (i:=0) (by simp) rfl s (q-1)).below (Below.refl _ _).drew);have ec:(((q-1:Nat):Int))=(q:Int)-1:=by omega
    rw[ec] at F3;have f1:IntKind.i64.wrap ((q:Int)-1)=(q:Int)-1:=by rw[←ec];exact qak _ (by omega)
    have sl:=HLC.out wq _ _ _ FQ.out;clear HOLD HNEW;go_upto_region 10 with fail
    go_region
    all_goals
     go_wp2;go_roundg (l.length-(k+1)+1)
     case measure=>have:=HG.out;omega
     case rel=>exact⟨k+1,m,_,_,by first|rfl|go_num|(congr 1;omega),rfl,by omega,by omega,F3,S2,by rw[List.length_set];exact hQL,hNU,by omega⟩
  ·have hend:Hid (m≤256∧k=l.length∨m=257):=by
    unfold Hid;omega
   have Z0:Hid (ZrS l key NU 0 NU):=⟨rfl,fun x hx=>⟨hx,fun i hi=>by omega⟩⟩;have HGO:((k:Int)<(l.length:Int))∧¬((m:Int)≤256)∨¬((k:Int)<(l.length:Int)):=by omega
   clear hgo HG;rcases HGO with⟨hA,hB⟩|hA
   all_goals
    go_wp2;go_loopg [20] (l.length+1) (fun g y wr=>∃(j:Nat) (N:List Nat),y=.int .i64 (j:Nat)∧j≤l.length∧Hid (Fr w0 ((.slice (some ⟨og,0,none⟩) n n,3,qab QL)::(.slice (some ⟨bx,0,none⟩) 3 3,24,[.string ⟨bs.toArray⟩,.slice na NX.length nc,.slice oo ol oc])::(.slice (some ⟨gn,0,none⟩) 65536 65536,3,qab N)::R1) wr)∧Hid (ZrS l key NU j N)∧l.length-j<g)
    case atStart=>exact⟨0,NU,rfl,by omega,F,Z0,by omega⟩
    case round=>
     clear F Z0;obtain⟨j,N,rfl,hj1,F,Z,hg⟩:=hrel;have HG:=qaa hg;clear hg;by_cases hj:j<l.length
     ·as_aux_lemma=>
      have hj':(j:Int)<(l.length:Int):=by omega
      obtain⟨h1,h2,h3,h4,h5⟩:=HKY.out j hj;obtain⟨kx,kl,kp,ko⟩:=HRD.out _ _ _ _ F.out;have c1:=(F.out.slot (i:=1) (by simp) rfl (k:=1) (by simp)).1;simp only[List.getElem_cons_succ,List.getElem_cons_zero] at c1;obtain⟨lb,loff,rfl,-,-⟩:=kl.get hj;have sl:=kl.atG hj;obtain⟨pb,poff,rfl,-,-⟩:=kp.get (i:=gN l j) (by omega);have sp:=kp.atG (i:=gN l j) (by omega);obtain⟨xb,xoff,rfl,-,-⟩:=kx.get h2;have sx:=kx.atG h2;obtain⟨ob,ooff,rfl,-,-⟩:=ko.get (i:=gN NX (gN l j*W+c)) (by omega);have so:=ko.atG (i:=gN NX (gN l j*W+c)) (by omega);have hke:key (gN l j)=gN PL (gN l j)*256+gN OL (gN NX (gN l j*W+c)):=by rw[hkE.out];rfl
      have Z2:Hid (ZrS l key NU (j+1) (N.set (key (gN l j)) 0)):=Z.out.next (by omega);have hNl:=Z.out.len;clear kx kl kp ko;generalize key (gN l j)=o at *;generalize gN OL (gN NX (gN l j*W+c))=q at *;generalize gN NX (gN l j*W+c)=t at *;generalize gN PL (gN l j)=p at *;generalize gN l j=s at *;have f1:IntKind.i64.wrap ((s:Int)*(W:Int))=((s*W:Nat):Int):=by rw[show(s:Int)*(W:Int)=((s*W:Nat):Int) by simp];exact qak _ (by omega)
      generalize hmm:s*W=y at *;have f3:IntKind.i64.wrap ((y:Int)+(c:Int))=((y+c:Nat):Int):=by rw[show(y:Int)+(c:Int)=((y+c:Nat):Int) by simp];exact qak _ (by omega)
      have f4:IntKind.i64.wrap ((p:Int)*256)=(p:Int)*256:=by rw[show(p:Int)*256=((p*256:Nat):Int) by simp];exact qak _ (by omega)
      have f5:IntKind.i64.wrap ((p:Int)*256+(q:Int))=(o:Int):=by rw[show(p:Int)*256+(q:Int)=(o:Int) by omega];exact qak _ (by omega)
      have hln:(y:Int)+(c:Int)<(NX.length:Int):=by omega
      have hlz:(0:Int)≤(y:Int)+(c:Int):=by omega
      have hlt:((y:Int)+(c:Int)).toNat=y+c:=by omega
      have hs':(s:Int)<(n:Int):=by omega
      have ht':(t:Int)<(n:Int):=by omega
      have hoo:(o:Int)<65536:=by omega
      obtain⟨s0,s1⟩:=F.out.slotN (i:=2) (by simp) rfl (k:=o) (by omega);have F3:=qaa ((F.out.storeN (i:=2) (by simp) rfl o 0).below (Below.refl _ _).drew);clear hmm hke;go_wp2;go_region
      all_goals
       go_wp2;go_roundg (l.length-(j+1)+1)
       case measure=>have:=HG.out;omega
       case rel=>exact⟨j+1,_,by first|rfl|go_num|(congr 1;omega),by omega,F3,Z2,by omega⟩
     ·as_aux_lemma=>
      obtain rfl:j=l.length:=by omega
      have hj':¬(l.length:Int)<(l.length:Int):=by omega
      have HZ:Hid (N=zer 65536):=qkb (Z.out.len.trans hNU) (Z.out.done S.out hk1);have FE:=qaa F.out.swap.tail;rw[HZ.out] at FE;go_wp2;go_ret2;exact⟨og,m,rfl,QL,FE.out,hQL,NU,k,hk1,S.out,hend.out⟩
end Go.Proofs.YtdgoilkgplnhfaaGreat
namespace Go.Proofs.YtdgoilkgplnhfaaGreat
theorem qek {l:List Nat} (h0:0<l.length) (hz:gN l 0=0) {PL NU:List Nat} {key:Nat→Nat} {m:Nat} (h:KnS l key l.length PL NU m):gN PL 0=0:=by
 have:=h.z h0;rw[hz] at this;exact this
section
variable {bs:By} {NX OU l PL OL NU QL:List Nat} {k m m0 s t:Nat} {C:List Nat} {W c:Nat} {key:Nat→Nat}
theorem KnS.lt (h:KnS l key l.length PL NU m):∀s∈l,gN PL s<m:=fun s hs=>by
 obtain⟨i,h1,h2⟩:=qcw hs;rw[←h2];exact h.b i h1
theorem KnS.hit (h:KnS l key l.length PL NU m):∀r,r<m→∃s,s∈l∧gN PL s=r:=fun r hr=>by
 obtain⟨i,h1,h2⟩:=h.d r hr;exact⟨_,qbo h1,h2⟩
theorem KnS.iff (h:KnS l key l.length PL NU m):∀s∈l,∀t∈l,(gN PL s=gN PL t↔key s=key t):=fun s hs t ht=>by
 obtain⟨i,h1,h2⟩:=qcw hs;obtain⟨j,h3,h4⟩:=qcw ht;rw[←h2,←h4];exact h.same h1 h3
theorem qml (h:(dfA bs NX OU).Eqv s t):gN OU s=gN OU t:=by
 have:((gN OU s:Nat):Int)=((gN OU t:Nat):Int):=h [] Txt.nil;omega
theorem KnS.parts (h:KnS l (gN OU) l.length PL NU m) (h0:0<l.length) (hz:gN l 0=0):DpS (dfA bs NX OU) l (gN PL) m:=
 ⟨h.lt,h.hit,fun s hs t ht e=>(h.iff s hs t ht).2 (qml e),fun s hs t ht e=>by
   show((gN OU s:Nat):Int)=((gN OU t:Nat):Int);rw[(h.iff s hs t ht).1 e],qek h0 hz h⟩
theorem KnS.none (h:KnS l key k PL NU 257) (hk:k≤l.length) {D:DF} (hr:RdT D l) (hq:∀s∈l,∀t∈l,D.Eqv s t→key s=key t):qcm D:=fun E hE hl=>by
 obtain⟨g,h1,h2⟩:=h.apart hk hq;exact qm1 hr h1 h2 hE hl
theorem ql3 {a b c d:Nat} (h1:b<256) (h2:d<256):a*256+b=c*256+d↔a=c∧b=d:=by omega
theorem KnS.sweep (h:KnS l (kyP PL OL NX W (gN C k)) l.length QL NU m) (hW:NX.length/OU.length=W) (h0:0<l.length) (hz:gN l 0=0) {m1:Nat} (hr:RdT (dfA bs NX OU) l) (hg:DpS (dfA bs NX OU) l (gN OL) m0) (hm0:m0≤256) (hs:SwS (dfA bs NX OU) l (gN OL) C k (gN PL) m1) (hC:∃b,b<256∧(dfA bs NX OU).bc b=gN C k):SwS (dfA bs NX OU) l (gN OL) C (k+1) (gN QL) m:=by
 refine SwS.next hr hg hs hC h.lt h.hit (qek h0 hz h) (fun s h1 t h2=>?_);obtain⟨b,hb,eb⟩:=hC;have en:∀s,(dfA bs NX OU).nx s (gN C k)=gN NX (s*W+gN C k):=fun s=>by
  show gN NX (s*(NX.length/OU.length)+_)=_;rw[hW]
 have hl:∀s∈l,gN OL (gN NX (s*W+gN C k))<256:=fun s hs=>by
  have h3:=hg.lt _ (hr.cl s hs b hb);have e:(dfA bs NX OU).step s b=gN NX (s*W+gN C k):=by
   show(dfA bs NX OU).nx s ((dfA bs NX OU).bc b)=_;rw[eb,en]
  rw[e] at h3;omega
 rw[h.iff s h1 t h2,en,en];exact ql3 (hl s h1) (hl t h2)
theorem qnr (hW:NX.length/OU.length=W) {m1:Nat} (hr:RdT (dfA bs NX OU) l) (hg:DpS (dfA bs NX OU) l (gN OL) m0) (hs:DpS (dfA bs NX OU) l (gN PL) m1) (hC:∃b,b<256∧(dfA bs NX OU).bc b=c):∀s∈l,∀t∈l,(dfA bs NX OU).Eqv s t→kyP PL OL NX W c s=kyP PL OL NX W c t:=fun s h1 t h2 e=>by
 obtain⟨b,hb,eb⟩:=hC;have en:∀s,(dfA bs NX OU).step s b=gN NX (s*W+c):=fun s=>by
  show gN NX (s*(NX.length/OU.length)+(dfA bs NX OU).bc b)=_;rw[hW,eb]
 have h3:=hg.eqv _ (hr.cl s h1 b hb) _ (hr.cl t h2 b hb) (e.step hb);have h4:=hs.eqv s h1 t h2 e;unfold kyP;rw[en,en] at h3;rw[h4,h3]
end
theorem SwS.more {D:DF} {l C:List Nat} {f g:Nat→Nat} {k m m0:Nat} (hg:DpS D l g m0) (h:SwS D l g C k f m):m0≤m:=by
 have hc:∀r,∃u,r<m0→u∈l∧g u=r:=fun r=>by
  by_cases hr:r<m0
  ·obtain⟨u,hu⟩:=hg.hit r hr
   exact⟨u,fun _=>hu⟩
  ·exact⟨0,fun h=>absurd h hr⟩
 refine qax m m0 (fun r=>f (hc r).choose) (fun i hi=>h.lt _ ((hc i).choose_spec hi).1) (fun i hi j hj e=>?_);have h1:=(hc i).choose_spec hi;have h2:=(hc j).choose_spec hj;have:=h.ref _ h1.1 _ h2.1 e;rw[h1.2,h2.2] at this;exact this
end Go.Proofs.YtdgoilkgplnhfaaGreat
namespace Go.Proofs.YtdgoilkgplnhfaaGreat
open Go.RowKit Go.Lib
def KpR (w0:World) (gn:Nat) (R1:List VR) (ao:Option Addr) (L:List Nat):Prop:=∀V x y NU,Fr w0 (x::y::(.slice (some ⟨gn,0,none⟩) 65536 65536,3,qab NU)::R1) V→NAt V ao L
section
variable {w0 V:World} {gn:Nat} {R1:List VR} {ao:Option Addr} {L NU:List Nat}
theorem KpR.old (h:NAt w0 ao L):KpR w0 gn R1 ao L:=fun _ _ _ _ F=>h.below F.bel
theorem KpR.more (h:KpR w0 gn R1 ao L) (r:VR):KpR w0 gn (r::R1) ao L:=fun V x y NU F=>h V x y NU F.drop3
theorem KpR.head {n cap:Nat}:KpR w0 gn ((.slice ao n cap,3,qab L)::R1) ao L:=fun V x y NU F=>by
 obtain⟨a,c,e,h⟩:=F.nat (i:=3) (by simp) rfl;simp only[Value.slice.injEq] at e;rw[e.1];exact h
theorem KpR.use (h:KpR w0 gn R1 ao L) (F:Fr w0 ((.slice (some ⟨gn,0,none⟩) 65536 65536,3,qab NU)::R1) V):NAt V ao L:=h V _ _ NU (Fr.front ((Fr.front (F.bare 3)).bare 3))
end
theorem PtP.one {l:List Nat} {key:Nat→Nat} {n:Nat} {e:Ending} {w:World} (h:PtP l key n e w):∃(pa:Option Addr) (pn pc m:Nat),e=.returned (.tuple #[.slice pa pn pc,.int .i64 (m:Nat)])∧((pn=n∧m≤256∧∃PL NU,NAt w pa PL∧PL.length=n∧KnS l key l.length PL NU m)∨(m=257∧∃PL NU k,k≤l.length∧KnS l key k PL NU 257)):=by
 rcases h with⟨pa,pc,PL,m,rfl,h1,h2,h3,NU,h4⟩|⟨pa,pn,pc,rfl,PL,NU,k,h1,h2⟩
 ·exact⟨pa,n,pc,m,rfl,.inl ⟨rfl,h3,PL,NU,h1,h2,h4⟩⟩
 ·exact⟨pa,pn,pc,257,rfl,.inr ⟨rfl,PL,NU,k,h1,h2⟩⟩
def PsP (bs:By) (NX OU l:List Nat) (e:Ending) (w:World):Prop:=
 (∃(pa:Option Addr) (pc m:Nat),e=.returned (.tuple #[.slice pa OU.length pc,.int .i64 (m:Nat)])∧m≤256∧∃PL,NAt w pa PL∧PL.length=OU.length∧DpS (dfA bs NX OU) l (gN PL) m∧∀s∈l,∀t∈l,(gN PL s=gN PL t↔(dfA bs NX OU).Eqv s t))∨
 (∃(pa:Option Addr) (pn pc:Nat),e=.returned (.tuple #[.slice pa pn pc,.int .i64 257])∧qcm (dfA bs NX OU))
set_option maxRecDepth 100000 in
set_option maxHeartbeats 8000000 in
theorem ql4 (bs:By) (na oa la ca:Option Addr) (nc oc lc cc W:Nat) (NX OU l C:List Nat) (w:World) (hM:qbv bs NX OU) (hW:NX.length/OU.length=W) (hWm:W=mxL (ntL bs)+1) (hr:RdT (dfA bs NX OU) l) (hl0:0<l.length) (hlz:gN l 0=0) (hll:l.length≤OU.length) (hC:∀c∈C,∃b,b<256∧(dfA bs NX OU).bc b=c) (hCb:∀b,b<256→(dfA bs NX OU).bc b∈C) (hCl:C.length≤256) (hnx:NAt w na NX) (hou:NAt w oa OU) (hla:NAt w la l) (hca:NAt w ca C):
 Calls Tryz.prog 38 #[auV bs na NX.length nc oa OU.length oc,.slice la l.length lc,.slice ca C.length cc] w fun e w'=>PsP bs NX OU l e w'∧Below w.heap.size w w':=by
 obtain⟨i3,hi3,hz30,hz31,hz32⟩:=info_parts Tryz.info3n;have hn1:=hM.n1;have hxl:=hM.nxl;obtain⟨w2,hw2⟩:∃w2,w2=w.alloc (.cells #[.string ⟨bs.toArray⟩,.slice na NX.length nc,.slice oa OU.length oc] 24):=⟨_,rfl⟩;have X2:Below w.heap.size w w2:=by rw[hw2];exact al (Below.refl _ _) _
 have B2:w2.heap[w.heap.size]? =some (.cells #[.string ⟨bs.toArray⟩,.slice na NX.length nc,.slice oa OU.length oc] 24 (0,0)):=by rw[hw2];exact heap_alloc_new w _
 have HC:Hid (∀V,Below w2.heap.size w2 V→(V.cell? ⟨w.heap.size,0,none⟩=some (.string ⟨bs.toArray⟩)∧V.cell? ⟨w.heap.size,1,none⟩=some (.slice na NX.length nc)∧V.cell? ⟨w.heap.size,2,none⟩=some (.slice oa OU.length oc))∧NAt V na NX∧NAt V oa OU∧NAt V la l∧NAt V ca C):=fun V x=>by
  have Bv:=(x.block _ (lt_of_block B2)).trans B2;have y:=bt X2 x (Nat.le_refl _);exact⟨⟨by rw[cell_of_row _ _ _ _ _ _ Bv];rfl,by rw[cell_of_row _ _ _ _ _ _ Bv];rfl,by rw[cell_of_row _ _ _ _ _ _ Bv];rfl⟩,hnx.below y,hou.below y,hla.below y,hca.below y⟩
 have HX2:=qaa X2;obtain⟨⟨c0,c1,c2⟩,-⟩:=HC.out w2 (Below.refl _ _);have HWD:=qaa (qb0 bs na oa NX.length nc OU.length oc w2 hM.bl);rw[←hWm] at HWD;unfold auV at HWD;have HM:=qaa hM;have HR:=qaa hr;have HCC:=qaa hC;have HCB:=qaa hCb;have HW:=qaa hW;have HLZ:=qaa hlz;have HLD:Hid (∀V,Below w2.heap.size w2 V→Calls Tryz.prog 81 #[.agg #[.string ⟨bs.toArray⟩,.slice na NX.length nc,.slice oa OU.length oc],.slice la l.length lc] V fun e w'=>(∃(pa:Option Addr) (pn pc m:Nat),e=.returned (.tuple #[.slice pa pn pc,.int .i64 (m:Nat)])∧((pn=OU.length∧m≤256∧∃PL NU,NAt w' pa PL∧PL.length=OU.length∧KnS l (gN OU) l.length PL NU m)∨(m=257∧∃PL NU k,k≤l.length∧KnS l (gN OU) k PL NU 257)))∧Below V.heap.size V w'):=fun V x=>by
  obtain⟨_,_,k2,k3,_⟩:=HC.out V x;refine(ql0 bs na oa la NX.length nc oc lc OU l V hM.n0 hM.n1 hM.lb hr.n hll k2 k3).mono ?_;rintro e w' ⟨hP,x'⟩;exact⟨hP.one,x'⟩
 have HUD:Hid (∀V,Below w2.heap.size w2 V→Calls Tryz.prog 82 #[.agg #[.string ⟨bs.toArray⟩,.slice na NX.length nc,.slice oa OU.length oc],.slice la l.length lc,.slice ca C.length cc] V fun e w'=>(∃(ao:Option Addr) (cap:Nat) (U:List Nat),e=.returned (.slice ao U.length cap)∧qan w' V.heap.size (.slice ao U.length cap) U∧UnS (dfA bs NX OU) l C C.length U)∧Below V.heap.size V w'):=fun V x=>by
  obtain⟨_,k1,_,k3,k4⟩:=HC.out V x;exact ql1 bs na oa la ca nc oc lc cc W NX OU l C V hM hW hWm (fun c hc=>by obtain⟨b,hb,e⟩:=hC c hc;rw[←e,←hW];exact hM.bw b hb) hCl hr.n hll k1 k3 k4
 clear X2 B2 hnx hou hla hca hM hr hC hCb hW hWm hlz;unfold auV;go_enter Tryz.func38,Tryz.ntmps38;go_upto_region 1 with fail
 rw[←hw2];clear hw2;go_upto_region 2 with(go_at_call 68;refine HWD.out.mono ?_;rintro e w3 ⟨rfl,x3⟩;have X3:=qaa x3;clear x3)
 clear c0 c1 c2 HWD;obtain⟨⟨c0,c1,c2⟩,-⟩:=HC.out w3 X3.out;go_upto_region 3 with(go_at_call 81;refine(HLD.out _ X3.out).mono ?_;rintro e w4 ⟨⟨pa,pn,pc,m,rfl,hp⟩,x4⟩;have X4:=qaa (bt X3.out x4 (Nat.le_refl _));have HP:=qaa hp;clear x4 hp)
 clear c0 c1 c2 HLD X3;go_upto_region 4 with(at_make;refine wpList_make_full _ rfl (.const (.int .i64 65536)) (.const (.int .i64 65536)) 22 rfl w4.heap.size 3 i3 (.int .i64 0) 1 Tryz.underlying22 hi3 hz30 hz31 .i64 .i64 _ _ 65536 rfl rfl rfl rfl (by rw[hz32];decide) (by unfold maxLen;decide) (Nat.le_refl _) ?_;intro w5 m1 m2;have F5:Hid (Fr w4 [(.slice (some ⟨w4.heap.size,0,none⟩) 65536 65536,3,qab (zer 65536))] w5):=(Fr.start w4).mkN m1 m2;clear m1 m2)
 obtain⟨gn,hgn⟩:∃gn,gn=w4.heap.size:=⟨_,rfl⟩;rw[←hgn] at F5 ⊢;clear hgn;have X5:=qaa (bt X4.out F5.out.bel (Nat.le_refl _));obtain⟨⟨c0,c1,c2⟩,-⟩:=HC.out w5 X5.out;go_upto_region 5 with(go_at_call 82;refine(HUD.out _ X5.out).mono ?_;rintro e w6 ⟨⟨ua,ucap,U,rfl,hU,hS⟩,x6⟩;have X56:=qaa x6;have HU:=qaa hU;have HS:=qaa hS;clear x6 hU hS)
 clear c0 c1 c2 HUD;have F6:Hid (Fr w4 [(.slice (some ⟨gn,0,none⟩) 65536 65536,3,qab (zer 65536)),(.slice ua U.length ucap,3,qab U)] w6):=by
  have hb:w4.heap.size≤w5.heap.size:=F5.out.bel.size;have ho:w6.ownsRow w5.heap.size 3 1 (.slice ua U.length ucap) U.length (qab U):=HU.out;exact F5.out.cons X56.out (by rw[qaf];exact qbx ho hb) (fun b hb'=>(World.ownsRow.lt ho b hb').1)
 have hUl:=HS.out.len;have XW6:=qaa (bt HX2.out (bt X5.out X56.out (Nat.le_refl _)) (Nat.le_refl _));clear F5 HU X5 X56;rcases HP.out with⟨rfl,hm,PL,NU0,hpl,hpn,hk⟩|⟨rfl,hbad⟩
 ·have D0:Hid (DpS (dfA bs NX OU) l (gN PL) m):=hk.parts hl0 HLZ.out
  have KP0:Hid (KpR w4 gn [(.slice ua U.length ucap,3,qab U)] pa PL):=KpR.old hpl;have KU0:Hid (KpR w4 gn [(.slice ua U.length ucap,3,qab U)] ua U):=KpR.head;clear hk hpl HP;have HKY:Hid (∀(QL PL:List Nat) (m1 m0 c:Nat),m1≤256→m0≤256→DpS (dfA bs NX OU) l (gN QL) m1→DpS (dfA bs NX OU) l (gN PL) m0→(∃b,b<256∧(dfA bs NX OU).bc b=c)→∀i,i<l.length→gN l i<OU.length∧gN l i*W+c<NX.length∧gN NX (gN l i*W+c)<OU.length∧gN QL (gN l i)<256∧gN PL (gN NX (gN l i*W+c))<256):=fun QL PL m1 m0 c h1 h2 hQ hP hb i hi=>by
   obtain⟨b,hb,eb⟩:=hb;have hs:=HR.out.n _ (qbo hi);have hs:gN l i<OU.length:=hs;have hcw:c<W:=by rw[←eb,←HW.out];exact HM.out.bw b hb
   have hix:gN l i*W+c<NX.length:=by rw[HM.out.wl,HW.out];exact qcd hs hcw
   have e:(dfA bs NX OU).step (gN l i) b=gN NX (gN l i*W+c):=by
    show gN NX (gN l i*(NX.length/OU.length)+(dfA bs NX OU).bc b)=_;rw[HW.out,eb]
   have h3:=hQ.lt _ (qbo hi);have h4:=hP.lt _ (HR.out.cl _ (qbo hi) b hb);rw[e] at h4;refine⟨hs,hix,?_,by omega,by omega⟩;rw[qah hix];exact HM.out.nl _ (List.getElem_mem hix)
  have HUB:Hid (∀k,k<U.length→∃b,b<256∧(dfA bs NX OU).bc b=gN U k):=fun k hk=>HCC.out _ (HS.out.mem _ (qbo hk))
  go_wp2;go_loopg [9,10] 258 (fun g x y wr=>∃(pa:Option Addr) (pc m:Nat) (PL:List Nat) (R1:List VR),x=.slice pa OU.length pc∧y=.int .i64 (m:Nat)∧m≤256∧PL.length=OU.length∧Hid (DpS (dfA bs NX OU) l (gN PL) m)∧Hid (Fr w4 ((.slice (some ⟨gn,0,none⟩) 65536 65536,3,qab (zer 65536))::R1) wr)∧Hid (KpR w4 gn R1 pa PL)∧Hid (KpR w4 gn R1 ua U)∧257-m<g)
  case atStart=>exact⟨pa,pc,m,PL,_,rfl,rfl,hm,hpn,D0,F6,KP0,KU0,by omega⟩
  case round=>
   clear D0 F6 KP0 KU0 hm hpn;obtain⟨pa,pc,m,PL,R1,rfl,rfl,hm,hpn,D0,F,KP,KU,hg⟩:=hrel;have HG:=qaa hg;clear hg;have hm':(m:Int)≤256:=by omega
   have SW0:Hid (SwS (dfA bs NX OU) l (gN PL) U 0 (gN PL) m):=SwS.start D0.out;go_wp2;go_loopg [9,10,14] (U.length+1) (fun g x y z wr=>∃(k m1:Nat) (qa:Option Addr) (qc:Nat) (QL:List Nat) (R2:List VR),z=.int .i64 (k:Nat)∧x=.slice qa OU.length qc∧y=.int .i64 (m1:Nat)∧k≤U.length∧m1≤256∧QL.length=OU.length∧Hid (SwS (dfA bs NX OU) l (gN PL) U k (gN QL) m1)∧Hid (Fr w4 ((.slice (some ⟨gn,0,none⟩) 65536 65536,3,qab (zer 65536))::R2) wr)∧Hid (KpR w4 gn R2 qa QL)∧Hid (KpR w4 gn R2 pa PL)∧Hid (KpR w4 gn R2 ua U)∧U.length-k<g)
   case atStart=>exact⟨0,m,pa,pc,PL,R1,rfl,rfl,rfl,by omega,hm,hpn,SW0,F,KP,KP,KU,by omega⟩
   case round=>
    clear F KP KU SW0 hm';obtain⟨k,m1,qa,qc,QL,R2,rfl,rfl,rfl,hk1,hm1,hqn,SW,F,KQ,KP,KU,hg⟩:=hrel;have HG2:=qaa hg;clear hg;have X4F:=qaa (bt X4.out F.out.bel (Nat.le_refl _));by_cases hk:k<U.length
    ·have hk':(k:Int)<(U.length:Int):=by omega
     obtain⟨⟨c0,c1,c2⟩,-⟩:=HC.out wr X4F.out;obtain⟨ub,uoff,rfl,-,-⟩:=(KU.out.use F.out).get hk;have su:=(KU.out.use F.out).atG hk;have HPR:Hid (∀V,Fr w4 ((.slice (some ⟨gn,0,none⟩) 65536 65536,3,qab (zer 65536))::R2) V→Calls Tryz.prog 83 #[.agg #[.string ⟨bs.toArray⟩,.slice na NX.length nc,.slice oa OU.length oc],.slice la l.length lc,.slice qa OU.length qc,.slice pa OU.length pc,.slice (some ⟨gn,0,none⟩) 65536 65536,.int .i64 (W:Nat),.int .i64 ((gN U k:Nat):Int)] V fun e w'=>∃og m:Nat,e=.returned (.tuple #[.slice (some ⟨og,0,none⟩) OU.length OU.length,.int .i64 (m:Nat)])∧∃TL:List Nat,Fr w4 ((.slice (some ⟨og,0,none⟩) OU.length OU.length,3,qab TL)::(.slice (some ⟨gn,0,none⟩) 65536 65536,3,qab (zer 65536))::R2) w'∧TL.length=OU.length∧∃NU k2,k2≤l.length∧KnS l (kyP QL PL NX W (gN U k)) k2 TL NU m∧((m≤256∧k2=l.length)∨m=257)):=fun V FV=>by
      have k1:=(HC.out w4 X4.out).2;exact ql2 bs na oa la qa pa nc OU.length oc lc qc pc W (gN U k) OU.length gn NX l QL PL R2 w4 V hxl hn1 hll hqn hpn (HKY.out QL PL m1 m _ hm1 hm SW.out.toDpS D0.out (HUB.out k hk)) FV (fun V x y NU F=>⟨k1.1.below F.bel,k1.2.2.1.below F.bel,KQ.out V x y NU F,KP.out V x y NU F⟩)
     have HSW:Hid (∀TL NU m2,KnS l (kyP QL PL NX W (gN U k)) l.length TL NU m2→SwS (dfA bs NX OU) l (gN PL) U (k+1) (gN TL) m2):=fun TL NU m2 h=>h.sweep HW.out hl0 HLZ.out HR.out D0.out hm SW.out (HUB.out k hk)
     have HNO:Hid (∀TL NU k2,k2≤l.length→KnS l (kyP QL PL NX W (gN U k)) k2 TL NU 257→qcm (dfA bs NX OU)):=fun TL NU k2 h1 h2=>h2.none h1 HR.out (qnr HW.out HR.out D0.out SW.out.toDpS (HUB.out k hk))
     generalize gN U k=c at *;go_upto_region 11 with fail
     go_cut [15,16] (fun x y wx=>∃og m2:Nat,x=.slice (some ⟨og,0,none⟩) OU.length OU.length∧y=.int .i64 (m2:Nat)∧Hid (∃TL:List Nat,Fr w4 ((.slice (some ⟨og,0,none⟩) OU.length OU.length,3,qab TL)::(.slice (some ⟨gn,0,none⟩) 65536 65536,3,qab (zer 65536))::R2) wx∧TL.length=OU.length∧∃NU k2,k2≤l.length∧KnS l (kyP QL PL NX W c) k2 TL NU m2∧((m2≤256∧k2=l.length)∨m2=257)))
     case first=>
      go_region_with (go_at_call 83;refine(HPR.out _ (by first|exact F.out|exact F.out.below (Below.refl _ _).drew)).mono ?_;rintro e w7 ⟨og,m2,rfl,hT⟩;have HT:=qaa hT;clear hT)
      all_goals
       go_wp2;go_meet;exact⟨og,m2,rfl,rfl,HT⟩
     case rest=>
      clear su c0 c1 c2 HPR F X4F;obtain⟨og,m2,rfl,rfl,HT⟩:=hcut;obtain⟨TL,ft,htl,NU,k2,hk2,hkn,hor⟩:=HT.out;have FT:=qaa ft;clear HT ft;rcases hor with⟨hm2,rfl⟩|rfl
      ·have hm2':¬(256:Int)<(m2:Int):=by omega
       have SW2:=qaa (HSW.out TL NU m2 hkn);have F2:=qaa FT.out.swap;have KQ2:Hid (KpR w4 gn ((.slice (some ⟨og,0,none⟩) OU.length OU.length,3,qab TL)::R2) (some ⟨og,0,none⟩) TL):=KpR.head;have KP2:=qaa (KP.out.more (.slice (some ⟨og,0,none⟩) OU.length OU.length,3,qab TL));have KU2:=qaa (KU.out.more (.slice (some ⟨og,0,none⟩) OU.length OU.length,3,qab TL));clear hkn FT HSW HNO;go_wp2;go_roundg (U.length-(k+1)+1)
       case measure=>have:=HG2.out;omega
       case rel=>exact⟨k+1,m2,_,_,TL,_,by first|rfl|go_num|(congr 1;omega),rfl,rfl,by omega,hm2,htl,SW2,F2,KQ2,KP2,KU2,by omega⟩
      ·have HN:=qaa (HNO.out TL NU k2 hk2 hkn)
       have XF:=qaa (bt HX2.out (bt X4.out FT.out.bel (Nat.le_refl _)) (Nat.le_refl _));clear hkn HSW HNO FT;go_wp2;go_ret2;exact⟨.inr ⟨_,_,_,rfl,HN.out⟩,XF.out⟩
    ·obtain rfl:k=U.length:=by omega
     have hk':¬(U.length:Int)<(U.length:Int):=by omega
     by_cases hmm:m1=m
     ·subst hmm
      have HFI:Hid (∀s∈l,∀t∈l,(gN QL s=gN QL t↔(dfA bs NX OU).Eqv s t)):=SW.out.done HR.out D0.out (HS.out.done HCB.out);have HNA:=qaa (KQ.out.use F.out);have XF:=qaa (bt HX2.out X4F.out (Nat.le_refl _));go_wp2;go_ret2;exact⟨.inl ⟨_,_,m1,rfl,hm1,QL,HNA.out,hqn,SW.out.toDpS,HFI.out⟩,XF.out⟩
     ·have hmo:=SW.out.more D0.out
      have hmm':((m1:Int)==(m:Int))=false:=by simp;omega
      have hmm2:¬(m1:Int)=(m:Int):=by omega
      have D2:=qaa SW.out.toDpS;go_wp2;go_roundg (257-m1+1)
      case measure=>have:=HG.out;omega
      case rel=>exact⟨qa,qc,m1,QL,R2,rfl,rfl,hm1,hqn,D2,F,KQ,KU,by omega⟩
 ·have HNO:Hid (qcm (dfA bs NX OU)):=by
   obtain⟨PL,NU,k,h1,h2⟩:=hbad;exact h2.none h1 HR.out (fun s _ t _ e=>qml e)
  clear hbad HP;go_wp2;go_loopg [9,10] 1 (fun g x y wr=>x=.slice pa pn pc∧y=.int .i64 257∧wr=w6∧0<g)
  case atStart=>exact⟨rfl,rfl,rfl,by omega⟩
  case round=>
   obtain⟨rfl,rfl,rfl,hg⟩:=hrel;go_wp2;go_ret2;exact⟨.inr ⟨_,_,_,rfl,HNO.out⟩,XW6.out⟩
end Go.Proofs.YtdgoilkgplnhfaaGreat

