/-
  The code's apart by its contract. Condition: the automaton may be, each state of it is reached, each column of it is a byte's.
-/
import Derived.Test.YtdgoilkgplnhfaaGreatJ28
import Derived.Test.YtdgoilkgplnhfaaGreatJ17
namespace Go.Proofs.YtdgoilkgplnhfaaGreat
open Go.RowKit Go.Lib
theorem drop_at {w:World} {base lg lc nl:Nat} {L:List Nat} (h:qan w base (.slice (some ⟨lg,0,none⟩) nl lc) L) (a m:Nat) (hm:a+m≤L.length):NAt w (some ⟨lg,a,none⟩) ((L.drop a).take m):=by
 have hg:=(World.ownsRow.lt (show w.ownsRow base 3 1 (.slice (some ⟨lg,0,none⟩) nl lc) L.length (qab L) from h) lg rfl).2;refine .inr ⟨lg,a,rfl,hg,fun i hi=>?_⟩;have hi':i<m:=by rw[List.length_take] at hi;omega
 rw[h.cell (i:=a+i) (by omega)];simp
theorem SpD.next {D:DF} {n W c k m0:Nat} {NX T O0:List Nat} {base pb:Nat} {lv pv ov rv rv':Value} {O L' P' O':List Nat} {R R':List Rm} {w0 w:World} (q:SpD n W c NX T base pb lv pv ov rv O R rv' L' P' O' R' w0 w) (hD:D.Pre) (hn:D.n=n) (hW:D.W=W) (hx:∀s c,D.nx s c=gN NX (s*W+c)) (h0:qdr D k m0 (gN O0)) (hc:ClS n O0 k T) (h:qko D k m0 (gN O0) c R.length (gN O)) (hcW:c<W):qko D k m0 (gN O0) (c+1) R'.length (gN O'):=by
 subst hn hW;have key:∀s,s<D.n→((∃j,j<T.length∧gN NX (s*D.W+c)=gN T j)↔gN O0 (D.nx s c)=k):=fun s hs=>by
  have:=hc.is (D.nx s c) (hD.toOk.nx s hs c hcW);rw[←this,hx]
 refine h.next hD h0 hcW q.ml (fun s hs=>(q.pt.os s hs).1) q.kn (fun s hs t ht=>?_);rw[q.iff s hs t ht,key s hs,key t ht]
set_option maxRecDepth 100000 in
set_option maxHeartbeats 8000000 in
theorem qjt (bs:By) (na oa:Option Addr) (nc oc W:Nat) (NX OU:List Nat) (D:DF) (w:World) (hn0:0<OU.length) (hn1:OU.length≤65536) (hW:NX.length=OU.length*W) (hW0:0<W) (hW1:W≤256) (hnl:∀t,t<NX.length→gN NX t<OU.length) (hnx:NAt w na NX) (hou:NAt w oa OU)
 (hD:D.Pre) (hDn:D.n=OU.length) (hDW:D.W=W) (hDx:∀s c,D.nx s c=gN NX (s*W+c)) (hDo:∀s,s<OU.length→D.ou s=((gN OU s:Nat):Int)):
 Calls Tryz.prog 78 #[auV bs na NX.length nc oa OU.length oc] w fun e w'=>(∃ov b,e=.returned (.tuple #[ov,.bool b])∧∃O:List Nat,qan w' w.heap.size ov O∧O.length=OU.length∧(∀s,s<OU.length→gN O s<65536)∧(b=true→(∀s,s<OU.length→gN O s<256)∧∀s,s<OU.length→∀t,t<OU.length→(gN O s=gN O t↔D.Eqv s t))∧(b=false→qks D 257))∧Below w.heap.size w w':=by
 have X1:Below w.heap.size w (w.alloc (.cells #[.string ⟨bs.toArray⟩,.slice na NX.length nc,.slice oa OU.length oc] 24)):=al (Below.refl _ _) _;have B1:=heap_alloc_new w (.cells #[.string ⟨bs.toArray⟩,.slice na NX.length nc,.slice oa OU.length oc] 24);obtain⟨w1,hw1⟩:∃w1,w1=w.alloc (.cells #[.string ⟨bs.toArray⟩,.slice na NX.length nc,.slice oa OU.length oc] 24):=⟨_,rfl⟩;rw[←hw1] at X1 B1;have hs1:w1.heap.size=w.heap.size+1:=by rw[hw1];simp
 have HC:Hid (∀V,Below w1.heap.size w1 V→V.cell? ⟨w.heap.size,0,none⟩=some (.string ⟨bs.toArray⟩)∧V.cell? ⟨w.heap.size,1,none⟩=some (.slice na NX.length nc)∧V.cell? ⟨w.heap.size,2,none⟩=some (.slice oa OU.length oc)∧NAt V na NX∧NAt V oa OU):=fun V x=>by
  have Bv:=(x.block _ (lt_of_block B1)).trans B1;exact⟨by rw[cell_of_row _ _ _ _ _ _ Bv];rfl,by rw[cell_of_row _ _ _ _ _ _ Bv];rfl,by rw[cell_of_row _ _ _ _ _ _ Bv];rfl,hnx.below (bt X1 x (Nat.le_refl _)),hou.below (bt X1 x (Nat.le_refl _))⟩
 have HX1:=qaa X1;have HS1:=qaa hs1;have HWL:=qaa hW;have HNL:=qaa hnl;have HDN:=qaa hDn;have HDW:=qaa hDW;have HDX:=qaa hDx;have HDO:=qaa hDo;have hdiv:NX.length/OU.length=W:=by rw[hW];exact Nat.mul_div_cancel_left W hn0
 have HDV:=qaa hdiv;clear X1 B1 hs1 hnx hou hW hnl hDn hDW hDx hDo hdiv;obtain⟨c0,c1,c2,kn,ko⟩:=HC.out w1 (Below.refl _ _);have HBL:=qaa (qha oa oc OU w1 hn0 hn1 ko);unfold auV;go_enter Tryz.func78,Tryz.ntmps78;go_upto_region 1 with fail
 rw[←hw1];clear hw1;go_wp2_with (fail);refine HBL.out.mono ?_;rintro e w2 ⟨⟨pb,rfl,lv,pv,ov,rv,L,P,O,R,p1,p2,p3,p4⟩,x2⟩;clear HBL c0 c1 c2 kn ko;obtain⟨c0,c1,c2,kn,ko⟩:=HC.out w2 x2;have HBK:=qaa (qk2 bs na oa nc oc W NX OU w2 hn0 hn1 HWL.out hW0 hW1 HNL.out kn);have P1:=qaa p1;have P2:=qaa p2;have P3:=qaa p3;have P4:=qaa p4;have X2:=qaa x2;unfold auV bkV at HBK;clear p1 p2 p3 p4 x2 kn ko;go_wp2_with (fail);refine HBK.out.mono ?_;rintro e w3 ⟨⟨sg,fg,rfl,S,F,hB,hR⟩,x3⟩;clear HBK c0 c1 c2;go_upto_block 0 with fail
 have A0:Hid (ApS OU.length (OU.length*W+1) (OU.length*W) w1 pb w3.heap.size sg fg S F lv pv ov rv L P O R (w3.alloc (.cells #[.int .i64 (OU.length:Int),.slice (some ⟨sg,0,none⟩) (OU.length*W+1) (OU.length*W+1),.slice (some ⟨fg,0,none⟩) (OU.length*W) (OU.length*W)] 157))):=by
  have x4:Below w3.heap.size w3 (w3.alloc (.cells #[.int .i64 (OU.length:Int),.slice (some ⟨sg,0,none⟩) (OU.length*W+1) (OU.length*W+1),.slice (some ⟨fg,0,none⟩) (OU.length*W) (OU.length*W)] 157)):=al (Below.refl _ _) _;have p3:=P1.out.below x3;have p4:=p3.below x4;have oS:=hR.own 0 (by simp);have oF:=hR.own 1 (by simp);simp only[List.getElem_cons_succ,List.getElem_cons_zero] at oS oF;have gS:=World.ownsRow.lt (show w3.ownsRow w2.heap.size 3 1 (.slice (some ⟨sg,0,none⟩) (OU.length*W+1) (OU.length*W+1)) S.length (qab S) from oS) sg rfl;have gF:=World.ownsRow.lt (show w3.ownsRow w2.heap.size 3 1 (.slice (some ⟨fg,0,none⟩) (OU.length*W) (OU.length*W)) F.length (qab F) from oF) fg rfl;have hin:∀g,w2.heap.size≤g→¬inP lv pv ov rv g∧¬g=pb:=fun g hg=>⟨fun hf=>by have:=inP.lt P1.out hf;omega,fun e=>by have:=lt_of_block P1.out.blk;omega⟩
  have hsz:=x4.size;refine⟨p4,P2.out,P3.out,?_,?_,⟨(hin sg gS.1).1,(hin sg gS.1).2,by omega⟩,⟨(hin fg gF.1).1,(hin fg gF.1).2,by omega⟩,hin _ x3.size,heap_alloc_new w3 _,bt (bt X2.out x3 (Nat.le_refl _)) x4 (Nat.le_refl _)⟩
  ·obtain⟨ao,cap,e,h9⟩:=oS.at
   injection e with e _ _
   rw[←e] at h9;exact h9.below x4
  ·obtain⟨ao,cap,e,h9⟩:=oF.at
   injection e with e _ _
   rw[←e] at h9;exact h9.below x4
 have H0:Hid (qdr D 0 R.length (gN O)):=qdr.first (fun s hs=>(P2.out.os s (by rw[←HDN.out];exact hs)).1) (fun s hs t ht=>by
  rw[P4.out s (by rw[←HDN.out];exact hs) t (by rw[←HDN.out];exact ht),HDO.out s (by rw[←HDN.out];exact hs),HDO.out t (by rw[←HDN.out];exact ht)];omega)
 have HB:=qaa hB;generalize (w3.alloc (.cells #[.int .i64 (OU.length:Int),.slice (some ⟨sg,0,none⟩) (OU.length*W+1) (OU.length*W+1),.slice (some ⟨fg,0,none⟩) (OU.length*W) (OU.length*W)] 157))=w4 at *;generalize w3.heap.size=bb at *;clear hB hR x3 P1 P2 P3 P4;go_wp2;go_loopg [6] (OU.length+2) (fun g x wr=>∃(k:Nat) (rv:Value) (L P O:List Nat) (R:List Rm),x=.int .i64 (k:Nat)∧Hid (ApS OU.length (OU.length*W+1) (OU.length*W) w1 pb bb sg fg S F lv pv ov rv L P O R wr)∧Hid (qdr D k R.length (gN O))∧k≤OU.length∧OU.length+1-k<g)
 case atStart=>exact⟨0,rv,L,P,O,R,rfl,A0,H0,by omega,by omega⟩
 case round=>
  obtain⟨k,rv,L,P,O,R,rfl,A,H,hkn,hg⟩:=hrel;have HG:=qaa hg;clear hg A0 H0;obtain⟨ra,rc,hrv⟩:=A.out.pr.own.shape;subst hrv;obtain⟨m0,m1,m2,m3⟩:=A.out.pr.cells;have hRn:=A.out.pt.many;by_cases hk:k<R.length
  ·have hk':(k:Int)<(R.length:Int):=by omega
   have hkb:decide ((k:Int)<(R.length:Int))=true:=by simpa using hk'
   have HST:=qaa (qgr wr w1.heap.size pb _ _ _ _ L P O R A.out.pr);go_wp2_with (fail);refine HST.out.mono ?_;rintro e w5 ⟨⟨b,rfl,hb⟩,x5⟩;have A5:=qaa (A.out.below x5);have A:=A5;clear HST x5 m0 m1 m2 m3;have HBB:=qaa hb;have hlen:=A.out.pt.ll;cases b with
   |true=>
    have HE:R.length≤k∨R.length=OU.length∨256<R.length:=by
     have:=HBB.out.1 rfl;rw[hlen] at this;exact .inr this
    clear hlen hb;go_upto_region 12 with fail
    as_aux_lemma=>
     obtain⟨q0,q1,q2,q3⟩:=A.out.pr.cells;obtain⟨oa',oc',hov⟩:=qan.shape (A.out.pr.rws.own 2 (by simp));simp only[List.getElem_cons_succ,List.getElem_cons_zero] at hov;subst hov;have HEND:=qaa (qfy hD.toOk HDN.out A.out.pt H.out HE);have hOn:∀s,s<OU.length→gN O s<65536:=fun s hs=>by have:=(A.out.pt.os s hs).1;have:=A.out.pt.many;omega
     have HOO:Hid (qan w5 w.heap.size (.slice oa' O.length oc') O):=(A.out.pr.rws.own 2 (by simp)).mono' (by have:=HS1.out;omega);have HXX:=qaa (bt HX1.out A.out.bel (Nat.le_refl _));have HOL:=qaa A.out.pt.ol;have HOS:Hid (∀s,s<OU.length→gN O s<R.length):=fun s hs=>(A.out.pt.os s hs).1
     have HON:=qaa hOn;clear A hOn;go_wp2;go_quiet (fail);have y9:Below w5.heap.size w5 (w5.drewN nq):=⟨rfl,rfl,rfl,Nat.le_refl _,fun _ _=>rfl⟩;have HO9:=qaa (own_below HOO.out y9);have HX9:=qaa (HXX.out.trans (y9.mono (by exact HXX.out.size)));go_wp2;go_ret2;exact⟨⟨_,_,rfl,O,HO9.out,HOL.out,HON.out,fun h9=>⟨fun s hs=>(by have:=HOS.out s hs;simp at h9;omega),HEND.out.1 (by simp at h9;omega)⟩,fun h9=>HEND.out.2 (by simp at h9;omega)⟩,HX9.out⟩
   |false=>
    clear hlen hb
    as_aux_lemma=>
     obtain⟨m0,m1,m2,m3⟩:=A.out.pr.cells;obtain⟨la,lc,hlv⟩:=qan.shape (A.out.pr.rws.own 0 (by simp));simp only[List.getElem_cons_zero] at hlv;subst hlv;obtain⟨r1,r2,r3,r4⟩:=A.out.pt.rm k hk;have hll:=A.out.pt.ll;obtain⟨lg,rfl,_⟩:=qan.gcell (A.out.pr.rws.own 0 (by simp)) (k:=(gR R k).a) (by show(gR R k).a<L.length;omega);obtain⟨rg,rc',hrv'⟩:=A.out.pr.own.at (by omega);injection hrv' with hra _ _
     subst hra;have hlc:L.length≤lc:=qgt (show w5.ownsRow w1.heap.size 3 1 (.slice (some ⟨lg,0,none⟩) L.length lc) L.length (qab L) from A.out.pr.rws.own 0 (by simp));have ca:=A.out.pr.own.cell hk (show 0<3 by decide);rw[Nat.add_zero] at ca;have ce:=A.out.pr.own.cell hk (show 2<3 by decide);simp only[rmC,List.getElem?_cons_succ,List.getElem?_cons_zero] at ca ce;obtain⟨htl,HCL⟩:=A.out.pt.clone hk;have hat:NAt w5.drew (some ⟨lg,(gR R k).a,none⟩) ((L.drop (gR R k).a).take ((gR R k).e-(gR R k).a)):=drop_at (A.out.pr.rws.own 0 (by simp)) _ _ (by show(gR R k).a+((gR R k).e-(gR R k).a)≤L.length;omega);have HCN:=qaa (qh6 ⟨lg,(gR R k).a,none⟩ (lc-(gR R k).a) _ w5.drew (by rw[htl];omega) hat);rw[htl] at HCN;have HTL:=qaa htl;have HCLS:=qaa HCL;clear hat htl HCL hll;generalize hT:(L.drop (gR R k).a).take ((gR R k).e-(gR R k).a)=T at *;clear hT;generalize (gR R k).a=ra at *;generalize (gR R k).e=re at *;have a4:(ra:Int)≤(re:Int):=by omega
     have hrel2:re≤L.length:=by have:=A.out.pt.ll;omega
     have a5:(re:Int)≤(lc:Int):=by omega
     have a6:(re:Int)≤(L.length:Int):=by omega
     have a7:¬lc-ra=0:=by omega
     have a8:¬lc≤ra:=by omega
     have a9:¬lc=ra:=by omega
     have lpb:=lt_of_block A.out.pr.blk;have lrg:=(World.ownsRow.lt (show w5.ownsRow w1.heap.size 164 3 (.slice (some ⟨rg,0,none⟩) R.length rc) R.length (qao R) from A.out.pr.own) rg rfl).2;clear m1 m2;go_wp2;go_region_held3 (fun w'=>w'.cell? ⟨pb,0,none⟩=some (.slice (some ⟨lg,0,none⟩) L.length lc)∧w'.cell? ⟨pb,3,none⟩=some (.slice (some ⟨rg,0,none⟩) R.length rc)∧w'.cell? ⟨rg,k*3,none⟩=some (.int .i64 (ra:Int))∧w'.cell? ⟨rg,k*3+2,none⟩=some (.int .i64 (re:Int))) (first|assumption|exact⟨m0,m3,ca,ce⟩|(simp[go_sem, *];done))
      ((go_at_call 116;refine HCN.out.mono ?_;rintro e w6 ⟨⟨v6,rfl,o6⟩,x6⟩;have y0:=(x6.cell (p:=⟨pb,0,none⟩) lpb).trans m0;have y1:=(x6.cell (p:=⟨pb,3,none⟩) lpb).trans m3;have y2:=(x6.cell (p:=⟨rg,k*3,none⟩) lrg).trans ca;have y3:=(x6.cell (p:=⟨rg,k*3+2,none⟩) lrg).trans ce;have yS:w6.cell? ⟨pb,0,none⟩=some (.slice (some ⟨lg,0,none⟩) L.length lc)∧w6.cell? ⟨pb,3,none⟩=some (.slice (some ⟨rg,0,none⟩) R.length rc)∧w6.cell? ⟨rg,k*3,none⟩=some (.int .i64 (ra:Int))∧w6.cell? ⟨rg,k*3+2,none⟩=some (.int .i64 (re:Int)):=⟨y0,y1,y2,y3⟩;have O6:=qaa o6;have X6:Hid (Below w5.heap.size w5 w6):=(Below.refl _ w5).drew.trans x6;clear x6 o6 y0 y1 y2 y3))
     obtain⟨ta,tc,hv6,_⟩:=qag (show w6.ownsRow w5.drew.heap.size 3 1 v6 T.length (qab T) from O6.out);subst hv6;have A6:=qaa (A.out.below X6.out);have NT:Hid (NAt w6 ta T∧(∀b off,ta=some ⟨b,off,none⟩→¬inP (.slice (some ⟨lg,0,none⟩) L.length lc) pv ov (.slice (some ⟨rg,0,none⟩) R.length rc) b∧¬b=pb∧b<w6.heap.size)):=by
      obtain⟨ao,cap,e,h9⟩:=O6.out.at;injection e with e _ _
      rw[←e] at h9;refine⟨h9,fun b off e2=>?_⟩;obtain⟨g,hg⟩:∃g,ta=some ⟨g,0,none⟩:=by
       rcases (show w6.ownsRow w5.drew.heap.size 3 1 (.slice ta T.length tc) T.length (qab T) from O6.out).2 with⟨h8,_⟩|⟨g,cap',cur,h8,_⟩
       ·injection h8 with h8 _ _;rw[h8] at e2;cases e2
       ·injection h8 with h8 _ _;exact⟨g,h8⟩
      rw[hg] at e2;injection e2 with e2
      injection e2 with e2 _ _
      have hlt:=World.ownsRow.lt (show w6.ownsRow w5.drew.heap.size 3 1 (.slice ta T.length tc) T.length (qab T) from O6.out) g (by rw[hg];rfl);have hge:w5.heap.size≤g:=hlt.1;subst e2;exact⟨fun hf=>by have:=inP.lt A.out.pr hf;omega,fun e3=>by omega,hlt.2⟩
     have hTl:Hid (T.length=re-ra):=HTL;obtain⟨c0,c1,c2,kn,ko⟩:=HC.out w6 A6.out.bel;have HWD:=qaa (qb7 bs na oa NX.length nc OU.length oc w6 (by have:=HWL.out;have:OU.length*W≤65536*256:=Nat.mul_le_mul hn1 hW1;omega) hn0);rw[HDV.out] at HWD;unfold auV at HWD;have S0:=qaa (qko.start H.out);have hR0:R.length≤OU.length:=hRn;clear A O6 X6 yS m0 m3 ca ce HCN kn ko;go_wp2_with (fail);refine HWD.out.mono ?_;rintro e w7 ⟨rfl,x7⟩;have A7:=qaa (A6.out.below x7);have NT7:Hid (NAt w7 ta T∧(∀b off,ta=some ⟨b,off,none⟩→¬inP (.slice (some ⟨lg,0,none⟩) L.length lc) pv ov (.slice (some ⟨rg,0,none⟩) R.length rc) b∧¬b=pb∧b<w7.heap.size)):=⟨NT.out.1.below x7,fun b off e=>⟨(NT.out.2 b off e).1,(NT.out.2 b off e).2.1,Nat.lt_of_lt_of_le (NT.out.2 b off e).2.2 x7.size⟩⟩;clear HWD c0 c1 c2 x7 A6 NT;go_wp2;go_loopg [52] (W+1) (fun g x wr=>∃(c:Nat) (rv':Value) (L' P' O':List Nat) (R':List Rm),x=.int .i64 (c:Nat)∧Hid (ApS OU.length (OU.length*W+1) (OU.length*W) w1 pb bb sg fg S F (.slice (some ⟨lg,0,none⟩) L.length lc) pv ov rv' L' P' O' R' wr)∧Hid (qko D k R.length (gN O) c R'.length (gN O'))∧Hid (NAt wr ta T∧(∀b off,ta=some ⟨b,off,none⟩→¬inP (.slice (some ⟨lg,0,none⟩) L.length lc) pv ov rv' b∧¬b=pb∧b<wr.heap.size))∧c≤W∧W-c<g)
     case atStart=>exact⟨0,_,L,P,O,R,rfl,A7,S0,NT7,by omega,by omega⟩
     case round=>
      obtain⟨c,rv',L',P',O',R',rfl,A,SP,NT,hcl,hg2⟩:=hrel;have HG2:=qaa hg2;clear hg2 A7 S0 NT7;by_cases hc:c<W
      ·have hc':(c:Int)<(W:Int):=by omega
       have HSP:=qaa (qi1 (n:=OU.length) (W:=W) (c:=c) (NX:=NX) (S:=S) (F:=F) (T:=T) wr w1.heap.size pb _ _ _ _ L' P' O' R' sg (OU.length*W+1) fg (OU.length*W) tc ta A.out.pr A.out.pt A.out.pl HB.out hc hW1 hn1 HCLS.out.lt HCLS.out.nd (by rw[HB.out.fl];exact Nat.le_refl _) A.out.ks A.out.kf NT.out.1 A.out.d1.1 A.out.d2.1 (fun b off e=>(NT.out.2 b off e).1));rw[HB.out.sl,HB.out.fl] at HSP;unfold bkV at HSP;have e0:wr.cell? ⟨bb,0,none⟩=some (.int .i64 (OU.length:Int)):=by rw[cell_of_row _ _ _ _ _ _ A.out.bx];rfl
       have e1:wr.cell? ⟨bb,1,none⟩=some (.slice (some ⟨sg,0,none⟩) (OU.length*W+1) (OU.length*W+1)):=by rw[cell_of_row _ _ _ _ _ _ A.out.bx];rfl
       have e2:wr.cell? ⟨bb,2,none⟩=some (.slice (some ⟨fg,0,none⟩) (OU.length*W) (OU.length*W)):=by rw[cell_of_row _ _ _ _ _ _ A.out.bx];rfl
       go_wp2_with (fail);refine HSP.out.mono ?_;rintro e w8 ⟨rfl,rv2,L2,P2,O2,R2,q⟩;have A8:=qaa (A.out.split q);have SP8:=qaa (q.next hD HDN.out HDW.out HDX.out H.out HCLS.out SP.out hc);have NT8:Hid (NAt w8 ta T∧(∀b off,ta=some ⟨b,off,none⟩→¬inP (.slice (some ⟨lg,0,none⟩) L.length lc) pv ov rv2 b∧¬b=pb∧b<w8.heap.size)):=⟨NT.out.1.kept q.kp (fun b off e h9=>h9.elim (NT.out.2 b off e).1 (NT.out.2 b off e).2.1),fun b off e=>⟨inP.new (NT.out.2 b off e).2.2 (NT.out.2 b off e).1 q.rb,(NT.out.2 b off e).2.1,Nat.lt_of_lt_of_le (NT.out.2 b off e).2.2 q.kp.size⟩⟩;clear HSP q e0 e1 e2 A SP NT;go_wp2;go_roundg (W-(c+1)+1)
       case measure=>have:=HG2.out;omega
       case rel=>exact⟨c+1,rv2,L2,P2,O2,R2,by first|rfl|go_num|(congr 1;omega),A8,SP8,NT8,by omega,by omega⟩
      ·have hc':¬(c:Int)<(W:Int):=by omega
       obtain rfl:W=c:=by omega
       have H9:Hid (qdr D (k+1) R'.length (gN O')):=H.out.next hD.toOk hk (by rw[HDW.out];exact SP.out);have hkw:IntKind.i64.wrap ((k:Int)+1)=((k+1:Nat):Int):=by simp[IntKind.wrap,IntKind.bits,IntKind.signed];omega
       go_wp2;go_roundg (OU.length+1-(k+1)+1)
       case measure=>have:=HG.out;omega
       case rel=>exact⟨k+1,rv',L',P',O',R',by first|rfl|go_num|(congr 1;omega),A,H9,by omega,by omega⟩
  ·have hk':¬(k:Int)<(R.length:Int):=by omega
   have hkb:decide ((k:Int)<(R.length:Int))=false:=by simpa using hk'
   have HE:R.length≤k∨R.length=OU.length∨256<R.length:=.inl (by omega);clear m0 m1 m2;go_upto_region 12 with fail
   as_aux_lemma=>
    obtain⟨q0,q1,q2,q3⟩:=A.out.pr.cells;obtain⟨oa',oc',hov⟩:=qan.shape (A.out.pr.rws.own 2 (by simp));simp only[List.getElem_cons_succ,List.getElem_cons_zero] at hov;subst hov;have HEND:=qaa (qfy hD.toOk HDN.out A.out.pt H.out HE);have hOn:∀s,s<OU.length→gN O s<65536:=fun s hs=>by have:=(A.out.pt.os s hs).1;have:=A.out.pt.many;omega
    have HOO:Hid (qan wr w.heap.size (.slice oa' O.length oc') O):=(A.out.pr.rws.own 2 (by simp)).mono' (by have:=HS1.out;omega);have HXX:=qaa (bt HX1.out A.out.bel (Nat.le_refl _));have HOL:=qaa A.out.pt.ol;have HOS:Hid (∀s,s<OU.length→gN O s<R.length):=fun s hs=>(A.out.pt.os s hs).1
    have HON:=qaa hOn;clear A hOn;go_wp2;go_quiet (fail);have y9:Below wr.heap.size wr (wr.drewN nq):=⟨rfl,rfl,rfl,Nat.le_refl _,fun _ _=>rfl⟩;have HO9:=qaa (own_below HOO.out y9);have HX9:=qaa (HXX.out.trans (y9.mono (by exact HXX.out.size)));go_wp2;go_ret2;exact⟨⟨_,_,rfl,O,HO9.out,HOL.out,HON.out,fun h9=>⟨fun s hs=>(by have:=HOS.out s hs;simp at h9;omega),HEND.out.1 (by simp at h9;omega)⟩,fun h9=>HEND.out.2 (by simp at h9;omega)⟩,HX9.out⟩
structure Agr (D E:DF):Prop where
 n:E.n=D.n
 W:E.W=D.W
 bc:∀b,b<256→E.bc b=D.bc b
 nx:∀s,s<D.n→∀c,c<D.W→E.nx s c=D.nx s c
 ou:∀s,s<D.n→E.ou s=D.ou s
section
variable {D E:DF}
theorem Agr.run (h:Agr D E) (hD:D.Ok):∀ {t:List Nat} {s:Nat},s<D.n→Txt t→E.run s t=D.run s t
 |[],s,_,_=>rfl
 |b::t,s,hs,ht=>by
  have hb:=ht.tail.1;have e:E.step s b=D.step s b:=by
   unfold DF.step;rw[h.bc b hb];exact h.nx s hs _ (hD.bc b hb)
  rw[DF.run_cons,DF.run_cons,e];exact h.run hD (hD.step hs hb) ht.tail.2
theorem Agr.lab (h:Agr D E) (hD:D.Ok) {t:List Nat} {s:Nat} (hs:s<D.n) (ht:Txt t):E.lab s t=D.lab s t:=by
 unfold DF.lab;rw[h.run hD hs ht];exact h.ou _ (hD.run hs ht)
theorem Agr.ok (h:Agr D E) (hD:D.Ok):E.Ok:=
 ⟨by rw[h.n];exact hD.n0,by rw[h.W];exact hD.W0,fun b hb=>by rw[h.bc b hb,h.W];exact hD.bc b hb,fun s hs c hc=>by rw[h.n] at hs ⊢;rw[h.W] at hc;rw[h.nx s hs c hc];exact hD.nx s hs c hc⟩
theorem Agr.right (h:Agr D E) (hD:D.Right):E.Right:=by
 have ok:=hD.toOk;refine⟨h.ok ok,fun s hs=>?_,fun s hs t ht e=>?_,fun c hc d hd e=>?_,fun b hb v hv=>?_,fun c hc=>?_,fun s hs c hc v h0 hv=>?_⟩
 ·rw[h.n] at hs
  obtain⟨t,h1,h2⟩:=hD.reach s hs;exact⟨t,h1,by rw[h.run ok ok.n0 h1];exact h2⟩
 ·rw[h.n] at hs ht
  exact hD.dist s hs t ht (fun u hu=>by rw[←h.lab ok hs hu,←h.lab ok ht hu];exact e u hu)
 ·rw[h.W] at hc hd
  exact hD.cold c hc d hd (fun s hs=>by rw[←h.nx s hs c hc,←h.nx s hs d hd];exact e s (by rw[h.n];exact hs))
 ·rw[h.bc b hb] at hv
  obtain⟨b',h1,h2⟩:=hD.colf b hb v hv;exact⟨b',h1,by rw[h.bc b' (by omega)];exact h2⟩
 ·rw[h.W] at hc
  obtain⟨b,h1,h2⟩:=hD.cols c hc;exact⟨b,h1,by rw[h.bc b h1];exact h2⟩
 ·rw[h.n] at hs
  rw[h.W] at hc;rw[h.nx s hs c hc] at hv;obtain⟨s',c',h1,h2,h3⟩:=hD.stf s hs c hc v h0 hv;have hs':s'<D.n:=by
   rcases h2 with h2|h2
   ·omega
   ·omega
  exact⟨s',c',by rw[h.W];exact h1,h2,by rw[h.nx s' hs' c' h1];exact h3⟩
end
theorem qdu (L:List Nat) {b:Nat} (hb:b<L.length) (hv:gN L b<256):((qav L).getD b 0).toNat=gN L b:=by
 unfold qav;rw[List.getD_eq_getElem?_getD,List.getElem?_map,List.getElem?_eq_getElem hb,←qah hb];simp only[Option.map_some,Option.getD_some];rw[UInt8.toNat_ofNat'];omega
theorem qfz (L:List Nat) (f:Nat→Nat) {i:Nat} (h:i<L.length):gN (L.map f) i=f (gN L i):=by
 rw[qah (by rw[List.length_map];exact h),qah h];simp
theorem qlo {bs:By} {NX OU col fst St X P num2 fst2 X2 num3 fst3 of3 X3:List Nat} (rc:RcS (dfA bs NX OU) fst St X St.length 0) (nf:qbf (dfA bs NX OU).bc 256 (gN col) (gN fst) fst.length) (cl:col.length=256) (hf:fst.length≤256)
 (hP:P.length=St.length) (hp:∀s,s<St.length→∀t,t<St.length→(gN P s=gN P t↔(rcD (dfA bs NX OU) col fst St X).Eqv s t))
 (nf2:qbf (gN P) P.length (gN num2) (gN fst2) fst2.length) (l2:X2.length=fst2.length*fst.length) (v2:∀q,q<X2.length→gN X2 q=gN num2 (gN X (gN fst2 (q/fst.length)*fst.length+q%fst.length))) (h256:fst2.length≤256)
 (nf3:qbf (fun c=>ldB X2 fst.length c fst2.length) fst.length (gN num3) (gN fst3) fst3.length) (ol:of3.length=256) (ov:∀b,b<256→gN of3 b=gN num3 ((qav col).getD b 0).toNat) (l3:X3.length=fst2.length*fst3.length) (v3:∀q,q<X3.length→gN X3 q=gN X2 (q/fst3.length*fst.length+gN fst3 (q%fst3.length))):
 (dfA (qav of3) X3 (fst2.map (gN (St.map (gN OU))))).Right∧∀t,Txt t→(dfA (qav of3) X3 (fst2.map (gN (St.map (gN OU))))).lab 0 t=(dfA bs NX OU).lab 0 t:=by
 obtain⟨h1,lab1⟩:=rc.done nf;have nf2':qbf (gN P) (rcD (dfA bs NX OU) col fst St X).n (gN num2) (gN fst2) fst2.length:=by rw[hP] at nf2;exact nf2
 obtain⟨h2,d2⟩:=qiv h1 nf2' hp;have hM0:=h2.toOk.n0;have hlook:∀c,c<fst.length→∀d,d<fst.length→((ldB X2 fst.length c fst2.length=ldB X2 fst.length d fst2.length)↔∀s,s<fst2.length→((rcD (dfA bs NX OU) col fst St X).merge (gN num2) (gN fst2) fst2.length).nx s c=((rcD (dfA bs NX OU) col fst St X).merge (gN num2) (gN fst2) fst2.length).nx s d):=fun c hc d hd=>by
  have key:∀s,s<fst2.length→∀c,c<fst.length→gN X2 (s*fst.length+c)=((rcD (dfA bs NX OU) col fst St X).merge (gN num2) (gN fst2) fst2.length).nx s c:=fun s hs c hc=>by
   have hq:s*fst.length+c<X2.length:=by rw[l2];exact qcd hs hc
   obtain⟨e1,e2⟩:=qbt (i:=s) hc;rw[v2 _ hq,e1,e2];rfl
  refine⟨fun e s hs=>?_,fun e=>?_⟩
  ·have:gN (ldB X2 fst.length c fst2.length) s=gN (ldB X2 fst.length d fst2.length) s:=by rw[e]
   rw[qgx _ _ _ _ _ (by omega),qgx _ _ _ _ _ (by omega),if_pos hs,if_pos hs,key s hs c hc,key s hs d hd] at this;exact this
  ·unfold ldB
   refine List.map_congr_left (fun i _=>?_);by_cases hi:i<fst2.length
   ·rw[if_pos hi,if_pos hi,key i hi c hc,key i hi d hd];exact e i hi
   ·rw[if_neg hi,if_neg hi]
 have h3:=qfh h2 d2 nf3 hlook;have agr:Agr (((rcD (dfA bs NX OU) col fst St X).merge (gN num2) (gN fst2) fst2.length).narrow (gN num3) (gN fst3) fst3.length) (dfA (qav of3) X3 (fst2.map (gN (St.map (gN OU))))):=by
  have hWd:X3.length/(fst2.map (gN (St.map (gN OU)))).length=fst3.length:=by rw[List.length_map,l3];exact Nat.mul_div_cancel_left _ hM0
  have hf3:fst3.length≤fst.length:=qax fst.length fst3.length (gN fst3) nf3.fstlt (fun i a j b e=>by rw[←nf3.numfst i a,←nf3.numfst j b,e]);refine⟨List.length_map _,hWd,fun b hb=>?_,fun s hs c hc=>?_,fun s hs=>?_⟩
  ·have e1:=qdu col (b:=b) (by omega) (by have:=nf.numlt b hb;omega)
   have hcb:=nf.numlt b hb;have e2:=ov b hb;rw[e1] at e2;show((qav of3).getD b 0).toNat=gN num3 (gN col b);rw[qdu of3 (by omega) (by rw[e2];have:=nf3.numlt _ hcb;omega),e2]
  ·show gN X3 (s*(X3.length/(fst2.map (gN (St.map (gN OU)))).length)+c)=gN num2 (gN X (gN fst2 s*fst.length+gN fst3 c))
   have hs':s<fst2.length:=hs;have hc':c<fst3.length:=hc;rw[hWd];have hq:s*fst3.length+c<X3.length:=by rw[l3];exact qcd hs' hc'
   obtain⟨e1,e2⟩:=qbt (i:=s) hc';have hcc:=nf3.fstlt c hc';have hq2:s*fst.length+gN fst3 c<X2.length:=by rw[l2];exact qcd hs' hcc
   obtain⟨e3,e4⟩:=qbt (i:=s) hcc;rw[v3 _ hq,e1,e2,v2 _ hq2,e3,e4]
  ·have hs':s<fst2.length:=hs
   have hsl:gN fst2 s<St.length:=by have:=nf2.fstlt s hs';omega
   show((gN (fst2.map (gN (St.map (gN OU)))) s:Nat):Int)=((gN OU (gN St (gN fst2 s)):Nat):Int);rw[qfz _ _ hs',qfz _ _ hsl]
 refine⟨agr.right h3,fun t ht=>?_⟩;have hz:=nf2'.zero h1.toOk.n0;rw[agr.lab h3.toOk h3.toOk.n0 ht,←lab1 t ht,←qdy h1.toOk nf2' hp h1.toOk.n0 ht,hz.1];unfold DF.lab;rw[qb6 h2.toOk nf3 hlook h2.toOk.n0 ht];rfl
end Go.Proofs.YtdgoilkgplnhfaaGreat

