/-
  The document's place by its contract: where a row stands among some. Condition: rows of one length.
-/
import Derived.Test.YtdgoilkgplnhfaaGreatJ39
import Derived.Test.YtdgoilkgplnhfaaGreatJ29
import Derived.Deep.RegionHeld3
namespace Go.Proofs.YtdgoilkgplnhfaaGreat
open Go.RowKit Go.Lib
def qpa (w:World) (ra:Option Addr) (R:List (List Nat)):Prop:=R=[]∨∃b off,ra=some ⟨b,off,none⟩∧∀i (h:i<R.length),∃a cap,w.cell? ⟨b,off+i,none⟩=some (.slice a (R[i]).length cap)∧NAt w a (R[i])
theorem qpa.get {w:World} {ra:Option Addr} {R:List (List Nat)} (h:qpa w ra R) {i:Nat} (hi:i<R.length):∃b off a cap,ra=some ⟨b,off,none⟩∧w.cell? ⟨b,off+i,none⟩=some (.slice a (R[i]).length cap)∧NAt w a (R[i]):=by
 rcases h with rfl|⟨b,off,e,h⟩
 ·simp at hi
 ·obtain⟨a,cap,h1,h2⟩:=h i hi
  exact⟨b,off,a,cap,e,h1,h2⟩
theorem qhu {A B:List Nat} (hl:A.length=B.length) (h:∀k,k<B.length→gN A k=gN B k):A=B:=by
 refine List.ext_getElem hl (fun i h1 h2=>?_);rw[←qah h1,←qah h2];exact h i h2
set_option maxRecDepth 100000 in
set_option maxHeartbeats 4000000 in
theorem ql5 (ra va:Option Addr) (rc vc:Nat) (R:List (List Nat)) (L:List Nat) (w:World) (hRl:R.length≤256) (hll:L.length≤256) (hm:∀i (h:i<R.length),(R[i]).length=L.length) (hR:∀n,qpa (w.drewN n) ra R) (hL:∀n,NAt (w.drewN n) va L):
 Calls Tryz.prog 84 #[.slice ra R.length rc,.slice va L.length vc] w fun e w'=>(∃p:Nat,e=.returned (.int .i64 (p:Nat))∧p≤R.length∧(∀j,j<p→R.getD j []≠L)∧(p<R.length→R.getD p []=L))∧∃n,w'=w.drewN n:=by
 have HR:=qaa hR;have HL:=qaa hL;have HM:=qaa hm;clear hR hL hm;go_enter Tryz.func84,Tryz.ntmps84;go_wp2;go_loopg [5] (R.length+1) (fun g x wr=>∃i:Nat,x=.int .i64 (i:Nat)∧i≤R.length∧Hid (∀j,j<i→R.getD j []≠L)∧Hid (∃n,wr=w.drewN n)∧R.length-i<g)
 case atStart=>exact⟨0,rfl,by omega,fun j hj=>by omega,⟨0,rfl⟩,by omega⟩
 case round=>
  obtain⟨i,rfl,hi1,HN,HD,hg⟩:=hrel;have HG:=qaa hg;clear hg;by_cases hi:i<R.length
  ·have hi':(i:Int)<(R.length:Int):=by omega
   go_wp2;go_loopg [6,7] (L.length+1) (fun g x y wr=>∃(k:Nat) (b:Bool),y=.int .i64 (k:Nat)∧k≤L.length∧x=.bool b∧Hid (b=true→∀p,p<k→gN (R.getD i []) p=gN L p)∧Hid (b=false→R.getD i []≠L)∧Hid (∃n,wr=w.drewN n)∧L.length-k<g)
   case atStart=>exact⟨0,true,rfl,by omega,rfl,(fun _ p hp=>by omega),(fun h=>by cases h),HD,by omega⟩
   case round=>
    clear HD;obtain⟨k,b,rfl,hk1,rfl,HB,HF,HD,hg⟩:=hrel;have HG2:=qaa hg;clear hg;by_cases hk:k<L.length
    ·have hk':(k:Int)<(L.length:Int):=by omega
     cases b with
     |false=>
      have HN2:Hid (∀j,j<i+1→R.getD j []≠L):=fun j hj=>by
       rcases Nat.lt_or_ge j i with h|h
       ·exact HN.out j h
       ·rw[show j=i by omega];exact HF.out rfl
      go_wp2;go_roundg (R.length-(i+1)+1)
      case measure=>have:=HG.out;omega
      case rel=>exact⟨i+1,by first|rfl|go_num|(congr 1;omega),by omega,HN2,HD,by omega⟩
     |true=>
      obtain⟨n0,hn0⟩:=HD.out;have kr:=HR.out n0;have kl:=HL.out n0;rw[←hn0] at kr kl;obtain⟨rb,roff,a,cap,rfl,sr,ka⟩:=kr.get hi;have hml:=HM.out i hi;rw[hml] at sr;have hki:k<(R[i]).length:=by omega
      obtain⟨ab,aoff,rfl,-,-⟩:=ka.get hki;have sa:=ka.atG hki;obtain⟨lb,loff,rfl,-,-⟩:=kl.get hk;have sl:=kl.atG hk;have eR:R.getD i []=R[i]:=by simp[List.getD_eq_getElem?_getD,hi]
      have HEQ:Hid (gN R[i] k=gN L k→∀p,p<k+1→gN (R.getD i []) p=gN L p):=fun h p hp=>by
       rcases Nat.lt_or_ge p k with h1|h1
       ·exact HB.out rfl p h1
       ·rw[show p=k by omega,eR];exact h
      have HNE:Hid (¬gN R[i] k=gN L k→R.getD i []≠L):=fun h e=>by
       rw[eR] at e;exact h (by rw[e])
      clear kr kl ka eR hml HB HF HD;generalize gN R[i] k=x at *;generalize gN L k=y at *;have HDN:Hid (∀nq,∃n,wr.drewN nq=w.drewN n):=fun nq=>by
       rw[hn0];exact⟨n0+nq,by unfold World.drewN;simp only[Nat.add_assoc]⟩
      clear hn0;by_cases hxy:x=y
      ·subst hxy
       have HB2:=qaa (HEQ.out rfl);clear HEQ HNE;go_wp2;go_quiet (fail);have HD2:Hid (∃n,wr.drewN nq=w.drewN n):=HDN.out nq;go_wp2;go_roundg (L.length-(k+1)+1)
       case measure=>have:=HG2.out;omega
       case rel=>exact⟨k+1,true,by first|rfl|go_num|(congr 1;omega),by omega,by first|rfl|simp,(fun _=>HB2.out),(fun h=>by cases h),HD2,by omega⟩
      ·have HF2:=qaa (HNE.out hxy)
       have hxy2:((x:Int)==(y:Int))=false:=by simp;omega
       have hxy3:¬(x:Int)=(y:Int):=by omega
       clear HEQ HNE;go_wp2;go_quiet (fail);have HD2:Hid (∃n,wr.drewN nq=w.drewN n):=HDN.out nq;go_wp2;go_roundg (L.length-(k+1)+1)
       case measure=>have:=HG2.out;omega
       case rel=>exact⟨k+1,false,by first|rfl|go_num|(congr 1;omega),by omega,by first|rfl|simp[hxy2],(fun h=>by cases h),(fun _=>HF2.out),HD2,by omega⟩
    ·obtain rfl:k=L.length:=by omega
     have hk':¬(L.length:Int)<(L.length:Int):=by omega
     cases b with
     |false=>
      have HN2:Hid (∀j,j<i+1→R.getD j []≠L):=fun j hj=>by
       rcases Nat.lt_or_ge j i with h|h
       ·exact HN.out j h
       ·rw[show j=i by omega];exact HF.out rfl
      go_wp2;go_roundg (R.length-(i+1)+1)
      case measure=>have:=HG.out;omega
      case rel=>exact⟨i+1,by first|rfl|go_num|(congr 1;omega),by omega,HN2,HD,by omega⟩
     |true=>
      have HFD:Hid (R.getD i []=L):=by
       have eR:R.getD i []=R[i]:=by simp[List.getD_eq_getElem?_getD,hi]
       exact qhu (by rw[eR];exact HM.out i hi) (HB.out rfl)
      go_wp2;go_ret;exact⟨⟨i,rfl,hi1,HN.out,fun _=>HFD.out⟩,HD.out⟩
  ·obtain rfl:i=R.length:=by omega
   have hi':¬(R.length:Int)<(R.length:Int):=by omega
   go_wp2;go_ret;exact⟨⟨R.length,rfl,Nat.le_refl _,HN.out,fun h=>by omega⟩,HD.out⟩
end Go.Proofs.YtdgoilkgplnhfaaGreat
namespace Go.Proofs.YtdgoilkgplnhfaaGreat
structure OnS (l PL:List Nat) (m k:Nat) (ON:List Nat):Prop where
 len:ON.length=m
 v:∀i,i<k→gN ON (gN PL (gN l i))∈l∧gN PL (gN ON (gN PL (gN l i)))=gN PL (gN l i)
section
variable {l PL ON:List Nat} {m k:Nat}
theorem OnS.start:OnS l PL m 0 (List.replicate m 0):=⟨List.length_replicate,fun i hi=>by omega⟩
theorem OnS.next (h:OnS l PL m k ON) (hk:k<l.length) (hp:gN PL (gN l k)<m):OnS l PL m (k+1) (ON.set (gN PL (gN l k)) (gN l k)):=by
 have hl:=h.len;refine⟨by rw[List.length_set];exact hl,fun i hi=>?_⟩;by_cases e:gN PL (gN l i)=gN PL (gN l k)
 ·rw[qbp (by omega),if_pos e]
  exact⟨qbo hk,e.symm⟩
 ·rw[qbp (by omega),if_neg e]
  refine h.v i ?_;rcases Nat.lt_or_ge i k with h1|h1
  ·exact h1
  ·exact absurd (by rw[show i=k by omega]) e
theorem OnS.done (h:OnS l PL m l.length ON) (hit:∀r,r<m→∃s,s∈l∧gN PL s=r):∀p,p<m→gN ON p∈l∧gN PL (gN ON p)=p:=fun p hp=>by
 obtain⟨s,h1,h2⟩:=hit p hp;obtain⟨i,h3,h4⟩:=qcw h1;have:=h.v i h3;rw[h4,h2] at this;exact this
end
theorem qbf.congr {α:Type} {look:Nat→α} {N M:Nat} {num num' fst:Nat→Nat} (h:qbf look N num fst M) (e:∀i,i<N→num' i=num i):qbf look N num' fst M:=
 ⟨fun i hi=>by rw[e i hi];exact h.numlt i hi,fun i hi=>by rw[e i hi];exact h.lk i hi,h.fstlt,fun k hk=>by rw[e _ (h.fstlt k hk)];exact h.numfst k hk,h.first,h.inc⟩
structure CoS (D:DF) (f one:Nat→Nat) (m b:Nat) (R:List (List Nat)) (OF CO F:List Nat):Prop where
 nf:qbf (fun b=>qdh D f one m (D.bc b)) b (gN CO) (gN F) R.length
 row:∀c,c<R.length→R.getD c []=qdh D f one m (D.bc (gN F c))
 fl:F.length=R.length
 of:∀b',b'<b→gN OF (D.bc b')=gN CO b'+1
 on:∀c,gN OF c≠0→∃b',b'<b∧D.bc b'=c
 ol:OF.length=256
 cl:CO.length=256
section
variable {D:DF} {f one:Nat→Nat} {m b:Nat} {R:List (List Nat)} {OF CO F:List Nat}
theorem CoS.start:CoS D f one m 0 [] (zer 256) (zer 256) []:=
 ⟨⟨fun i h=>by omega,fun i h=>by omega,fun i h=>(by cases h),fun i h=>(by cases h),fun i h=>(by cases h),fun i l _ h=>(by cases h)⟩,fun c hc=>(by cases hc),rfl,fun b' h=>by omega,fun c hc=>absurd (qkc _ _) hc,qhf _,qhf _⟩
theorem CoS.few (h:CoS D f one m b R OF CO F):R.length≤b:=qax b R.length (gN F) h.nf.fstlt (fun i a j c e=>by rw[←h.nf.numfst i a,←h.nf.numfst j c,e])
theorem qkd {L:List Nat} {b i:Nat} (hi:i<b):gN (L.take b) i=gN L i:=by
 unfold gN;simp[List.getD_eq_getElem?_getD,hi]
theorem CoS.take (h:CoS D f one m b R OF CO F) (hb:b<256):qbf (fun b=>qdh D f one m (D.bc b)) (CO.take b).length (gN (CO.take b)) (gN F) F.length∧(CO.take b).length=b:=by
 have hl:(CO.take b).length=b:=by rw[List.length_take,h.cl];omega
 refine⟨?_,hl⟩;rw[hl,h.fl];exact h.nf.congr (fun i hi=>qkd hi)
theorem CoS.put (h:CoS D f one m b R OF CO F) (hb:b<256) {x i:Nat} (hi:i<b+1):gN (CO.set b x) i=gN (CO.take b++[x]) i:=by
 have hl:(CO.take b).length=b:=by rw[List.length_take,h.cl];omega
 rw[qbp (by rw[h.cl];exact hb)];by_cases e:i=b
 ·subst e
  rw[if_pos rfl];have:=qat (CO.take i) x;rw[hl] at this;exact this.symm
 ·rw[if_neg e,qau (by omega),qkd (by omega)]
theorem CoS.hit (h:CoS D f one m b R OF CO F) (hb:b<256) {p:Nat} (hp:p<R.length) (he:qdh D f one m (D.bc (gN F p))=qdh D f one m (D.bc b)) {OF':List Nat} (ol:OF'.length=256) (ov:∀c,gN OF' c=if c=D.bc b then p+1 else gN OF c) (hold:∀b',b'<b→D.bc b'=D.bc b→gN CO b'=p):CoS D f one m (b+1) R OF' (CO.set b p) F:=by
 obtain⟨h1,hl⟩:=h.take hb;have h2:=h1.hit (n:=p) (by rw[h.fl];exact hp) (by rw[hl];exact he);rw[hl,h.fl] at h2;refine⟨h2.congr (fun i hi=>h.put hb hi),h.row,h.fl,fun b' hb'=>?_,fun c hc'=>?_,ol,by rw[List.length_set];exact h.cl⟩
 ·rw[ov,qbp (by rw[h.cl];exact hb)]
  by_cases e:b'=b
  ·rw[if_pos e,e,if_pos rfl]
  ·rw[if_neg e]
   by_cases e2:D.bc b'=D.bc b
   ·rw[if_pos e2,hold b' (by omega) e2]
   ·rw[if_neg e2];exact h.of b' (by omega)
 ·rw[ov] at hc'
  by_cases e:c=D.bc b
  ·exact⟨b,by omega,e.symm⟩
  ·rw[if_neg e] at hc'
   obtain⟨b',h3,h4⟩:=h.on c hc';exact⟨b',by omega,h4⟩
theorem CoS.old (h:CoS D f one m b R OF CO F) (hb:b<256) (ho:gN OF (D.bc b)≠0):gN OF (D.bc b)≤R.length∧CoS D f one m (b+1) R OF (CO.set b (gN OF (D.bc b)-1)) F:=by
 obtain⟨b',h1,h2⟩:=h.on _ ho;have h3:=h.of b' h1;rw[h2] at h3;have h4:=h.nf.numlt b' h1;refine⟨by omega,h.hit hb (p:=gN OF (D.bc b)-1) (by omega) ?_ h.ol (fun c=>?_) (fun b2 h5 h6=>?_)⟩
 ·have e:gN OF (D.bc b)-1=gN CO b':=by omega
  rw[e];have h7:qdh D f one m (D.bc (gN F (gN CO b')))=qdh D f one m (D.bc b'):=h.nf.lk b' h1;rw[h7,h2]
 ·by_cases e:c=D.bc b
  ·rw[if_pos e,e];omega
  ·rw[if_neg e]
 ·have:=h.of b2 h5
  rw[h6] at this;omega
theorem CoS.same (h:CoS D f one m b R OF CO F) (hb:b<256) (hc:D.bc b<256) (ho:gN OF (D.bc b)=0) {p:Nat} (hp:p<R.length) (he:R.getD p []=qdh D f one m (D.bc b)):CoS D f one m (b+1) R (OF.set (D.bc b) (p+1)) (CO.set b p) F:=by
 refine h.hit hb hp (by rw[←h.row p hp];exact he) (by rw[List.length_set];exact h.ol) (fun c=>qbp (by rw[h.ol];exact hc)) (fun b' h1 h2=>?_);have:=h.of b' h1;rw[h2,ho] at this;omega
theorem CoS.new (h:CoS D f one m b R OF CO F) (hb:b<256) (hc:D.bc b<256) (ho:gN OF (D.bc b)=0) (hne:∀j,j<R.length→R.getD j []≠qdh D f one m (D.bc b)):CoS D f one m (b+1) (R++[qdh D f one m (D.bc b)]) (OF.set (D.bc b) (R.length+1)) (CO.set b R.length) (F++[b]):=by
 obtain⟨h1,hl⟩:=h.take hb;have h2:=h1.miss (fun k hk e=>hne k (by rw[←h.fl];exact hk) (by rw[h.row k (by rw[←h.fl];exact hk),←hl];exact e));rw[hl,h.fl] at h2;have hlR:(R++[qdh D f one m (D.bc b)]).length=R.length+1:=by simp
 refine⟨by rw[hlR];exact h2.congr (fun i hi=>h.put hb hi),fun c hc'=>?_,by simp[h.fl],fun b' hb'=>?_,fun c hc'=>?_,by rw[List.length_set];exact h.ol,by rw[List.length_set];exact h.cl⟩
 ·rw[hlR] at hc'
  by_cases e:c<R.length
  ·have e1:(R++[qdh D f one m (D.bc b)]).getD c []=R.getD c []:=by simp[List.getD_eq_getElem?_getD,List.getElem?_append,e]
   rw[e1,qau (by rw[h.fl];exact e)];exact h.row c e
  ·have e2:c=R.length:=by omega
   subst e2;have e1:(R++[qdh D f one m (D.bc b)]).getD R.length []=qdh D f one m (D.bc b):=by simp[List.getD_eq_getElem?_getD]
   have e3:=qat F b;rw[h.fl] at e3;rw[e1,e3]
 ·rw[qbp (by rw[h.ol];exact hc),qbp (by rw[h.cl];exact hb)]
  by_cases e:b'=b
  ·rw[if_pos e,e,if_pos rfl]
  ·rw[if_neg e]
   have h3:=h.of b' (by omega);by_cases e2:D.bc b'=D.bc b
   ·rw[e2,ho] at h3;omega
   ·rw[if_neg e2];exact h3
 ·rw[qbp (by rw[h.ol];exact hc)] at hc'
  by_cases e:c=D.bc b
  ·exact⟨b,by omega,e.symm⟩
  ·rw[if_neg e] at hc'
   obtain⟨b',h3,h4⟩:=h.on c hc';exact⟨b',by omega,h4⟩
end
structure NoS (St NM:List Nat) (m:Nat):Prop where
 len:NM.length=m
 v:∀p,gN NM p≠0→gN NM p≤St.length∧gN St (gN NM p-1)=p
 w:∀a,a<St.length→gN NM (gN St a)≠0
theorem NoS.start {m:Nat} (hm:0<m):NoS [0] ((List.replicate m 0).set 0 1) m:=by
 refine⟨by simp,fun p hp=>?_,fun a ha=>?_⟩
 ·rw[qbp (by simp;exact hm)] at hp ⊢
  by_cases e:p=0
  ·rw[if_pos e];exact⟨by simp,by rw[e];rfl⟩
  ·rw[if_neg e,qg0] at hp;exact absurd rfl hp
 ·have:a=0:=by simp at ha;omega
  subst this;rw[show gN [0] 0=0 from rfl,qbp (by simp;exact hm),if_pos rfl];decide
theorem NoS.new {St NM:List Nat} {m p:Nat} (h:NoS St NM m) (hp:p<m):NoS (St++[p]) (NM.set p (St.length+1)) m:=by
 have hl:=h.len;refine⟨by rw[List.length_set];exact hl,fun q hq=>?_,fun a ha=>?_⟩
 ·rw[qbp (by omega)] at hq ⊢
  by_cases e:q=p
  ·rw[if_pos e]
   exact⟨by simp,by rw[show St.length+1-1=St.length by omega,qat];exact e.symm⟩
  ·rw[if_neg e] at hq ⊢
   obtain⟨h1,h2⟩:=h.v q hq;exact⟨by simp;omega,by rw[qau (by omega)];exact h2⟩
 ·rw[qbp (by omega)]
  by_cases e:a<St.length
  ·rw[qau e]
   by_cases e2:gN St a=p
   ·rw[if_pos e2];omega
   ·rw[if_neg e2];exact h.w a e
  ·have e3:a=St.length:=by simp at ha;omega
   rw[e3,qat,if_pos rfl];omega
theorem qke {bs:By} {NX OU l PL ON CO F St X O:List Nat} {m:Nat} {R:List (List Nat)} (hM:qbv bs NX OU) (hm:m≤256) (h:QuS (dfA bs NX OU) l (gN PL) (gN ON) m R (gN CO) (gN F)) (hf:F.length=R.length) (hR:R.length≤256) (cl:CO.length=256) (rc:RcS (quD (dfA bs NX OU) (gN ON) m R (gN CO)) F St X St.length 0) (hO:O=St.map fun p=>gN OU (gN ON p)):
 (dfA (qav CO) X O).Right∧(∀t,Txt t→(dfA (qav CO) X O).lab 0 t=(dfA bs NX OU).lab 0 t)∧qbv (qav CO) X O∧O.length≤256:=by
 obtain⟨h1,h2⟩:=h.done hf rc;have hOl:O.length=St.length:=by rw[hO,List.length_map]
 have hlen:X.length=St.length*F.length:=by have:=rc.len;omega
 have hs0:=rc.s0.1;have hWd:X.length/O.length=F.length:=by rw[hlen,hOl];exact Nat.mul_div_cancel_left _ hs0
 have hSt:St.length≤m:=qax m St.length (gN St) rc.lt rc.nd;have hou:∀s,s<St.length→gN O s=gN OU (gN ON (gN St s)):=fun s hs=>by
  rw[hO];exact qfz St (fun p=>gN OU (gN ON p)) hs
 have hcb:∀b,b<256→gN CO b<R.length:=fun b hb=>h.nf.numlt b hb
 have hbt:∀b,b<256→((qav CO).getD b 0).toNat=gN CO b:=fun b hb=>qdu CO (by omega) (by have:=hcb b hb;omega)
 have agr:Agr (rcD (quD (dfA bs NX OU) (gN ON) m R (gN CO)) CO F St X) (dfA (qav CO) X O):=by
  refine⟨hOl,hWd,fun b hb=>hbt b hb,fun s hs c hc=>?_,fun s hs=>?_⟩
  ·show gN X (s*(X.length/O.length)+c)=gN X (s*F.length+c)
   rw[hWd]
  ·have hs':s<St.length:=hs
   show((gN O s:Nat):Int)=((gN OU (gN ON (gN St s)):Nat):Int);rw[hou s hs']
 refine⟨agr.right h1,fun t ht=>by rw[agr.lab h1.toOk h1.toOk.n0 ht];exact h2 t ht,⟨?_,by omega,by omega,by rw[hWd,hOl];exact hlen,fun b hb=>?_,by rw[hWd];omega,fun x hx=>?_,fun x hx=>?_⟩,by omega⟩
 ·unfold qav;rw[List.length_map];exact cl
 ·rw[hWd,hbt b hb,hf];exact hcb b hb
 ·obtain⟨q,h3,h4⟩:=qcw hx
  rw[←h4,hOl];exact(rc.nxt q h3).1
 ·rw[hO] at hx
  obtain⟨p,h3,rfl⟩:=List.mem_map.1 hx;obtain⟨a,h4,h5⟩:=qcw h3;have hp:=rc.lt a h4;rw[h5] at hp;have hs:=h.rd.n _ (h.on p hp).1;have hs:gN ON p<OU.length:=hs;rw[qah hs];exact hM.lb _ (List.getElem_mem hs)
end Go.Proofs.YtdgoilkgplnhfaaGreat
namespace Go.Proofs.YtdgoilkgplnhfaaGreat
open Go.RowKit Go.Lib
section
variable {P:Program} {ops:Array Oper} {Q:Exit→Act→World→Prop} {md:Region.Mode} {S:World→Prop} {z:Nat}
def qaj (P:Program) (md:Region.Mode) (ops:Array Oper) (Q:Exit→Act→World→Prop) (S:World→Prop) (z:Nat):Nat→Array Bool→Act→World→Prop
 |0,done,a,w=>Region.ready md ops done=[]∧Q .normal a w
 |n+1,done,a,w=>(Region.ready md ops done=[]→Q .normal a w)∧∀i∈Region.ready md ops done,wpOp P ops Q i (fun a' w'=>((done.setIfInBounds i true).getD z true=false→S w')∧qaj P md ops Q S z n (done.setIfInBounds i true) a' w') a w
theorem qaj.any:∀(n:Nat) (done:Array Bool) (a:Act) (w:World),qaj P md ops Q S z n done a w→wpAny P md ops Q n done a w
 |0,_,_,_,h=>h
 |n+1,_,_,_,h=>⟨h.1,fun i hi=>wpOp_mono (fun a' w' k=>qaj.any n _ a' w' k.2) (h.2 i hi)⟩
def qpo (md:Region.Mode) (ops:Array Oper) (i:Nat):List Nat:=
 (List.range ops.size).foldl (fun C c=>match ops[c]? with
   |some o=>if o.after.any (fun e=>Region.binds md e&&(e.on==i||C.contains e.on)) then c::C else C
   |none=>C) []
def qpp (md:Region.Mode) (ops:Array Oper) (done:Array Bool) (i z:Nat) (C:List Nat):Bool:=
 C.contains z&& !C.contains i&&C.all fun c=> !done.getD c true&&match ops[c]? with
  |some o=>o.after.any fun e=>Region.binds md e&&(e.on==i||C.contains e.on)
  |none=>false
theorem qaj.first {i:Nat} {oi:Oper} {v:Value} {C:List Nat} (hi:ops[i]? =some oi) (hzC:z∈C) (hiC:i∉C) (hC:∀c∈C,∃oc,ops[c]? =some oc∧∃e∈oc.after,Region.binds md e=true∧(e.on=i∨e.on∈C)) (hsel:∀(j:Nat) (o:Oper) cs b,ops[j]? =some o→o.op≠.select cs b) (hQ:∀c a w,Q (.panic c) (a.put oi.dst v) w→Q (.panic c) a w):
 ∀(n:Nat) (done:Array Bool) (a:Act) (w:World),(∀c∈C,done.getD c true=false)→(∀j oj,ops[j]? =some oj→j≠i→done.getD j true=false→(∀e∈oj.after,Region.binds md e=true→e.on≠i)→oi.apart ops oj=true)→
  i∈Region.ready md ops done→YieldsIf P ops S oi v a→S w→qaj P md ops Q S z n (done.setIfInBounds i true) (a.put oi.dst v) w→qaj P md ops Q S z (n+1) done a w:=by
 intro n
 induction n with
 |zero=>
  intro done a w _ _ hr hy hS H;refine⟨fun h=>(by rw[h] at hr;cases hr),fun j hj=>?_⟩;by_cases hji:j=i
  ·subst hji;exact hy.wpOp hi hS ⟨fun _=>hS,H⟩
  ·have h1:=ready_mono hj hji
   rw[H.1] at h1;cases h1
 |succ n ih=>
  intro done a w hzu hfree hr hy hS H;refine⟨fun h=>(by rw[h] at hr;cases hr),fun j hj=>?_⟩;by_cases hji:j=i
  ·subst hji;exact hy.wpOp hi hS ⟨fun _=>hS,H⟩
  ·have h1:=H.2 j (ready_mono hj hji)
   obtain⟨hjun,oj,hoj,hall⟩:=mem_ready.1 hj;have hun:¬done.getD i false=true:=fun h=>by
    have h0:=(mem_ready.1 hr).1;rcases Nat.lt_or_ge i done.size with h'|h'
    ·simp[h'] at h0 h;rw[h0] at h;cases h
    ·simp[Array.getElem?_eq_none h'] at h
   have hno:∀e∈oj.after,Region.binds md e=true→e.on≠i:=fun e he hb heq=>hun (by rw[←heq];exact hall e he hb)
   have hjC:j∉C:=fun hjC=>by
    obtain⟨oc,h1,x,x1,x2,x3⟩:=hC j hjC;rw[hoj] at h1;cases h1;rcases x3 with x3|x3
    ·exact hno x x1 x2 x3
    ·have h2:=hall x x1 x2
     have h3:=hzu _ x3;rcases Nat.lt_or_ge x.on done.size with h'|h'
     ·simp[h'] at h2 h3;rw[h2] at h3;cases h3
     ·simp[Array.getElem?_eq_none h'] at h2
   have hzu2:∀c∈C,(done.setIfInBounds j true).getD c true=false:=fun c hc=>by
    have hne:j≠c:=fun e=>hjC (by rw[e];exact hc)
    rw[getD_set_ne true hne];exact hzu c hc
   have hzu3:((done.setIfInBounds i true).setIfInBounds j true).getD z true=false:=by
    have hn1:j≠z:=fun e=>hjC (by rw[e];exact hzC)
    have hn2:i≠z:=fun e=>hiC (by rw[e];exact hzC)
    rw[getD_set_ne true hn1,getD_set_ne true hn2];exact hzu z hzC
   have h2:=wpOp_putIf hoj (hfree j oj hoj hji hjun hno) (fun cs b=>hsel i oi cs b hi) (fun cs b=>hsel j oj cs b hoj) hQ hy h1;have hfree':∀k ok,ops[k]? =some ok→k≠i→(done.setIfInBounds j true).getD k true=false→(∀e∈ok.after,Region.binds md e=true→e.on≠i)→oi.apart ops ok=true:=fun k ok hk hki hu hn=>by
    refine hfree k ok hk hki ?_ hn;by_cases hjk:j=k
    ·subst hjk;exact hjun
    ·rw[getD_set_ne true hjk] at hu;exact hu
   refine wpOp_mono (fun a' w' h3=>?_) h2;have hS':=h3.2.1 hzu3;refine⟨fun _=>hS',ih (done.setIfInBounds j true) a' w' hzu2 hfree' (ready_mono hr (Ne.symm hji)) h3.1 hS' ?_⟩;rw[Array.setIfInBounds_comm _ _ hji];exact h3.2.2
theorem qaj.take {i n:Nat} {oi:Oper} {done:Array Bool} {a:Act} {w:World} (d:Option Nat) (hi:ops[i]? =some oi) (hd:oi.dst=d) (hz:qpp md ops done i z (qpo md ops i)=true) (hs:Region.noSelect ops=true) (hf:Region.free md ops done i=true) (hr:(Region.ready md ops done).contains i=true)
 (hQ:∀v c a w,Q (.panic c) (a.put oi.dst v) w→Q (.panic c) a w) (hw:Region.wanted oi (yielded ops a.tmps)=true) (hS:S w) (h:∃v,(∀w',S w'→(execOp a.eval oi).run P w'=.ok (.value v) w')∧qaj P md ops Q S z n (done.setIfInBounds i true) (a.put d v) w):qaj P md ops Q S z (n+1) done a w:=by
 obtain⟨v,h1,h2⟩:=h;rw[←hd] at h2
 revert hz
 generalize qpo md ops i=C;intro hz;simp only[qpp,Bool.and_eq_true,List.all_eq_true,Bool.not_eq_true',List.contains_iff_mem] at hz;obtain⟨⟨hz1,hz2⟩,hz3⟩:=hz;refine qaj.first (C:=C) hi hz1 ?_ ?_ (Region.noSelect_spec hs) (hQ v) n done a w (fun c hc=>(hz3 c hc).1) (Region.free_spec hi hf) (by simpa using hr) (.inl ⟨hw,h1⟩) hS h2
 ·intro h0
  rw[List.contains_iff_mem.2 h0] at hz2;cases hz2
 ·intro c hc
  have h3:=(hz3 c hc).2;cases ho:ops[c]? with
  |none=>rw[ho] at h3;cases h3
  |some o=>
   rw[ho] at h3;obtain⟨k,hk,e⟩:=Array.any_eq_true.1 h3;simp only[Bool.and_eq_true,Bool.or_eq_true,beq_iff_eq,List.contains_iff_mem] at e;exact⟨o,rfl,o.after[k],Array.getElem_mem hk,e.1,e.2⟩
theorem qaj.one {i n:Nat} {done:Array Bool} {a:Act} {w:World} (hr:Region.ready md ops done=[i]) (h:wpOp P ops Q i (fun a' w'=>((done.setIfInBounds i true).getD z true=false→S w')∧qaj P md ops Q S z n (done.setIfInBounds i true) a' w') a w):qaj P md ops Q S z (n+1) done a w:=
 ⟨fun h0=>(by rw[hr] at h0;cases h0),fun j hj=>by
   rw[hr] at hj;obtain rfl:=List.mem_singleton.1 hj;exact h⟩
theorem qaj.step {i n:Nat} {o:Oper} {done:Array Bool} {a:Act} {w:World} (hr:Region.ready md ops done=[i]) (ho:ops[i]? =some o) (h:∀K':Act→World→Prop,Shut (∀a w,S w→qaj P md ops Q S z n (done.setIfInBounds i true) a w→K' a w)→if Region.wanted o (yielded ops a.tmps)=true then Oper.wp P o a w K' Q else K' (a.put o.dst undef) w):qaj P md ops Q S z (n+1) done a w:=
 qaj.one hr (wpOp_step ho (fun K' hK=>h K' (fun a w h1 h2=>hK a w ⟨fun _=>h1,h2⟩)))
theorem qaj.last {n:Nat} {o:Oper} {done:Array Bool} {a:Act} {w:World} (hr:Region.ready md ops done=[z]) (ho:ops[z]? =some o) (hr2:Region.ready md ops (done.setIfInBounds z true)=[]) (hz:(done.setIfInBounds z true).getD z true=true) (h:∀K':Act→World→Prop,Shut (∀a w,Q .normal a w→K' a w)→if Region.wanted o (yielded ops a.tmps)=true then Oper.wp P o a w K' Q else K' (a.put o.dst undef) w):qaj P md ops Q S z (n+1) done a w:=
 qaj.one hr (wpOp_step ho (fun K' hK=>h K' (fun a w h1=>hK a w ⟨fun h2=>(by rw[hz] at h2;cases h2),by
  cases n with
  |zero=>exact⟨hr2,h1⟩
  |succ n=>exact⟨fun _=>h1,fun j hj=>by rw[hr2] at hj;cases hj⟩⟩)))
theorem qco {id:Nat} {a:Act} {w:World} (z:Nat) (hm:P.follows .mixedOrders=true) (h:qaj P .any ops Q S z ops.size (Array.replicate ops.size false) a w.drew):(Code.region id ops true).wp P Q a w:=wp_region_any hm (qaj.any _ _ _ _ h)
end
section
variable {P:Program} {ops:Array Oper} {Q:Exit→Act→World→Prop} {md:Region.Mode} {S:World→Prop} {z:Nat}
theorem qaj.tk {n:Nat} {oi:Oper} {done:Array Bool} {a:Act} {w:World} {v:Value} (i:Nat) (hi:ops[i]? =some oi) (d:Nat) (hS:S w) (h1:∀w',S w'→(execOp a.eval oi).run P w'=.ok (.value v) w') (h2:qaj P md ops Q S z n (done.setIfInBounds i true) (a.put (some d) v) w) (hd:oi.dst=some d:=by rfl) (hz:qpp md ops done i z (qpo md ops i)=true:=by kernel_rfl) (hs:Region.noSelect ops=true:=by kernel_rfl) (hf:Region.free md ops done i=true:=by kernel_rfl) (hr:(Region.ready md ops done).contains i=true:=by kernel_rfl) (hQ:∀v c a w,Q (.panic c) (a.put oi.dst v) w→Q (.panic c) a w:=by exact fun _ _ _ _ h=>h) (hw:Region.wanted oi (yielded ops a.tmps)=true:=by rfl):qaj P md ops Q S z (n+1) done a w:=qaj.take (some d) hi hd hz hs hf hr hQ hw hS ⟨v,h1,h2⟩
end
end Go.Proofs.YtdgoilkgplnhfaaGreat

