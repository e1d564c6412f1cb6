/-
  SyntaxNear answers true. Conditions: what the library's variable holds lies below; texts no longer than a process can hold.
-/
import Derived.Great.BuildSlice
import Derived.Test.YtlmhofjiobmodaaGreatDoorP52
set_option maxRecDepth 100000
set_option maxHeartbeats 16000000
namespace Go.Proofs.YtlmhofjiobmodaaGreatDoor
open Go.RowKit Go.Lib
theorem qj4 {P:Program} {o:Oper} {a:Act} {w:World} {K:Act→World→Prop} {Q:Exit→Act→World→Prop} (t e:TypeId) (x0 x1 x2 x3 x4 x5:Operand) (ho:o.op=.buildSlice t 6 #[(0,x0),(1,x1),(2,x2),(3,x3),(4,x4),(5,x5)])
 (B0 B1 B2 B3 B4 B5:ByteArray) (h0:a.eval x0=.string B0) (h1:a.eval x1=.string B1) (h2:a.eval x2=.string B2) (h3:a.eval x3=.string B3) (h4:a.eval x4=.string B4) (h5:a.eval x5=.string B5) (ie:TypeInfo) (z:Value) (hu:P.underlying t=some (.slice e)) (hie:P.info? e=some ie) (hz:ie.zero=some z) (hsz:ie.size=1)
 (h:∀(T:Nat→ByteArray) (V:World),(∀j,j<6→V.cell? ⟨w.heap.size,j,none⟩=some (.string (T j)))→Below w.heap.size w V→w.heap.size<V.heap.size→K (a.put o.dst (.slice (some ⟨w.heap.size,0,none⟩) 6 6)) V):o.wp P a w K Q:=by
 obtain⟨r,hr,hrs,NH⟩:=Great.fill_dense (s:=1) (by decide) [.string B0,.string B1,.string B2,.string B3,.string B4,.string B5] 0 ((Array.range (6*ie.size)).map (z.cells[· %z.cells.size]!)) (fun v hv=>by simp at hv;rcases hv with rfl|rfl|rfl|rfl|rfl|rfl<;>rfl) (by simp[hsz]);have er:r=#[.string B0,.string B1,.string B2,.string B3,.string B4,.string B5]:=by
  apply Array.ext
  ·rw[hrs];simp[hsz]
  ·intro k h1 h2
   have:=NH k;simp at h2;have hk:k=0∨k=1∨k=2∨k=3∨k=4∨k=5:=by omega
   rcases hk with rfl|rfl|rfl|rfl|rfl|rfl<;>(rw[if_pos ⟨by omega,by simp⟩] at this;rw[Array.getElem?_eq_getElem h1] at this;simpa [Value.cells] using this)
 subst er;refine wp_buildSlice t e 6 _ ho #[.string B0,.string B1,.string B2,.string B3,.string B4,.string B5] ie z hu hie hz (by rw[hsz];decide) (by rw[hsz];decide) ?_ (h (fun j=>[B0,B1,B2,B3,B4,B5].getD j B0) (w.alloc (.cells #[.string B0,.string B1,.string B2,.string B3,.string B4,.string B5] e)) (fun j hj=>?_) (al Yj _) (Yd (Yh w (.cells #[.string B0,.string B1,.string B2,.string B3,.string B4,.string B5] e))))
 ·rw[hsz] at hr ⊢
  rw[←hr];simp[h0,h1,h2,h3,h4,h5]
 ·rw[Ye _ _ _ _ _ _ (Yh w _)]
  have hk:j=0∨j=1∨j=2∨j=3∨j=4∨j=5:=by omega
  rcases hk with rfl|rfl|rfl|rfl|rfl|rfl<;>rfl
theorem qtb {a b:Nat} (h:¬2147483647<qmb (qmb (qf6 a b))):a+b≤2147483647:=by
 have h0:0≤qf6 (a:Int) (b:Int):=(qe0 (by omega) (by omega)).1;have h1:=qob (qoa h0).1 (by omega);have h2:=qob h0 h1;unfold qf6 at h2;split at h2<;>omega
theorem qgk (s R:By) (at_:Int) (w:World) (hs:s.length≤140737488351232) (hm:R.length≤140737488351232) (hat:Fit at_) (hev:qfx w.heap.size w):
 Calls Tryz.prog 4 #[.string ⟨s.toArray⟩,.int .i64 at_,.string ⟨R.toArray⟩] w fun e w'=>e=.returned (.bool true)∧Below w.heap.size w w':=by
 have hsz:=qa5 s;have hsR:=qa5 R;have hA1:=qe0 (n:=(s.length:Int)) (m:=(R.length:Int)) (by omega) (by omega);have hA2:=qoa hA1.1;have HD0:=qaa (fun W=>qhp s.length R.length W (by omega) (by omega) (by omega) (by omega));have HD1:=qaa (fun W=>qgs (qf6 s.length R.length) W hA1.1 (by omega));have HD2:=qaa (fun W=>qgs (qmb (qf6 s.length R.length)) W hA2.1 (by omega));have Jz:=qaa (qtb (a:=s.length) (b:=R.length));generalize qmb (qmb (qf6 (s.length:Int) (R.length:Int)))=A3 at *;generalize qmb (qf6 (s.length:Int) (R.length:Int))=A2 at *;generalize qf6 (s.length:Int) (R.length:Int)=A1 at *;clear hA1 hA2;have OO:=qaa (qn7 w hev);by_cases hA:2147483647<A3
 ·go_enter Tryz.func4,Tryz.ntmps4
  go_wp2_with (first|(go_at_call 9;refine(HD0.out _).mono ?_;rintro e wz ⟨rfl,Ba⟩;have Ba:=Ba.symm;subst Ba)|(go_at_call 8;refine(HD1.out _).mono ?_;clear HD1;rintro e wz ⟨rfl,Ba⟩;have Ba:=Ba.symm;subst Ba)|(go_at_call 8;refine(HD2.out _).mono ?_;rintro e wz ⟨rfl,Ba⟩;have Ba:=Ba.symm;subst Ba));go_ret;exact⟨rfl,Below.refl _ _⟩
 ·have GD:=qaa (Jz.out hA)
  go_enter Tryz.func4,Tryz.ntmps4;go_upto_region 4 with(first|(go_at_call 9;refine(HD0.out _).mono ?_;rintro e wz ⟨rfl,Ba⟩;have Ba:=Ba.symm;subst Ba)|(go_at_call 8;refine(HD1.out _).mono ?_;clear HD1;rintro e wz ⟨rfl,Ba⟩;have Ba:=Ba.symm;subst Ba)|(go_at_call 8;refine(HD2.out _).mono ?_;rintro e wz ⟨rfl,Ba⟩;have Ba:=Ba.symm;subst Ba)|(go_at_call 10;refine OO.out.mono ?_;rintro e w1 ⟨rfl,x1⟩;have X1:=qaa x1;clear x1))
  have ET:=qaa (hev.up X1.out);clear OO HD0 HD2 Jz hev hA hs hm;cases hsc:qbb s with
  |error cn=>
   obtain⟨c,n⟩:=cn;have hc0:=qdd hsc;have hcb:(c !=0)=true:=by simpa using hc0
   have Ru:(c==0)=false:=by simpa using hc0
   have HS:=qaa (qim hsc w1 ET.out);clear hsc hc0;go_wp2_with (go_at_call 16;refine HS.out.mono ?_;rintro e w2 ⟨rfl,x2⟩;have X2:=qaa x2;clear x2);go_ret;exact⟨rfl,bt X1.out X2.out Yi⟩
  |ok L=>
   have Dq:=qaa hsc;have HS:=qaa (qkr hsc w1 ET.out);have HG:=qaa (qf5 hsc);clear hsc;go_wp2_with (fail);refine HS.out.mono ?_;rintro e w2 ⟨⟨tv,rfl,ho⟩,x2⟩;obtain⟨ao,cap,hv,BS⟩:=qad ho;obtain⟨g,hg⟩:=BS HG.out.pos;subst hg;subst hv;have HO:=qaa ho;have X2:=qaa (bt X1.out x2 Yi);have HE2:=qaa (ET.out.up x2);clear ho x2 HS BS X1 ET;by_cases h1:L.length=1
   ·have hb:((L.length:Int)==1)=true:=by simp[h1]
    have h0:((0:Int)!=0)=false:=by decide
    have HR:=qaa (rfl:L.length=L.length);go_wp2;go_ret;exact⟨rfl,X2.out⟩
   have hb:((L.length:Int)==1)=false:=by simp;omega
   have GV:Hid (1<L.length):=by have:=HG.out.pos;unfold Hid;omega
   have GX:Hid (L.length≤8589934592):=by have:=HG.out.few;unfold Hid;omega
   have NI:=qaa (fun W=>qqt at_ (L.length-1) hat (by have:=GV.out;omega) (by have:=GX.out;omega) W);have De:=qaa (qs9 at_ (n:=L.length-1) (by have:=GV.out;omega));generalize pkZ at_ (L.length-1)=k at *;have hL1:((L.length-1:Nat):Int)=(L.length:Int)-1:=by have:=GV.out;omega
   rw[hL1] at NI;clear hL1 h1;have hl2:(1:Int)<(L.length:Int):=by have:=GV.out;omega
   have hl3:(L.length:Int)≤8589934592:=by have:=GX.out;omega
   go_upto_region 8 with(go_at_call 17;refine(NI.out _).mono ?_;rintro e wz ⟨rfl,Ba⟩;have Ba:=Ba.symm;subst Ba)
   clear NI hb hat;have Gz:Hid (∀i,i<L.length→∃n:Nat,(tok L i).p=(n:Int)∧n≤s.length):=fun i hi=>by
    obtain⟨h1,h2⟩:=qlx Dq.out i hi;exact⟨(tok L i).p.toNat,by omega,by omega⟩
   obtain⟨_,_,c0⟩:=qku HO.out (i:=k) (by have:=De.out;omega);obtain⟨_,_,c1⟩:=qku HO.out (i:=k+1) (by have:=De.out;omega);obtain⟨n0,hn0,hn2⟩:=Gz.out k (by have:=De.out;omega);obtain⟨n1,hn1,GA⟩:=Gz.out (k+1) (by have:=De.out;omega);rw[hn0] at c0;rw[hn1] at c1;have hk1:(k:Int)<(L.length:Int):=by have:=De.out;omega
   have hk2:((k+1:Nat):Int)<(L.length:Int):=by have:=De.out;omega
   have fw:IntKind.i64.wrap ((k:Int)+1)=((k+1:Nat):Int):=by simp[IntKind.wrap,IntKind.bits,IntKind.signed];omega
   clear hn0 hn1 Gz Dq HG GV GX hl2 hl3 HO;go_upto_region 10 with fail
   clear c0 c1 fw hk1 hk2 De;have hl4:=GD.out;generalize HB0:(⟨s.toArray⟩:ByteArray)=S0 at *;generalize HB1:(⟨R.toArray⟩:ByteArray)=R0 at *;have e0:(S0.extract 0 n0).size=n0:=by simp;omega
   have e1:(S0.extract 0 n1).size=n1:=by simp;omega
   have e2:(S0.extract n0 S0.size).size=s.length-n0:=by simp[hsz]
   have e3:(S0.extract n1 S0.size).size=s.length-n1:=by simp[hsz]
   refine qam (S:=fun _=>True) 38 (by kernel_rfl) ?_;have XD:=qaa (bt X2.out Yj.drew Yi);have OP:=qaa (HE2.out.up Yj.drew);clear X2 HE2;generalize w2.drew=w3 at *;refine qac.tk 0 rfl 66 trivial (fun w' _=>by go_simp;first|done|rfl|(rw[if_neg (by omega)])) ?_
   try simp only[Act.put,Ya,Yb,Yc]
   refine qac.tk 1 rfl 67 trivial (fun w' _=>by go_simp;first|done|rfl|(rw[if_neg (by omega)])) ?_
   try simp only[Act.put,Ya,Yb,Yc]
   refine qac.tk 2 rfl 68 trivial (fun w' _=>by go_simp;first|done|rfl|(rw[if_neg (by omega)])) ?_
   try simp only[Act.put,Ya,Yb,Yc]
   refine qac.tk 3 rfl 69 trivial (fun w' _=>by go_simp;first|done|rfl|(rw[if_neg (by omega)])) ?_
   try simp only[Act.put,Ya,Yb,Yc]
   refine qac.tk 4 rfl 70 trivial (fun w' _=>by go_simp;first|done|rfl|(rw[if_neg (by omega)])) ?_
   try simp only[Act.put,Ya,Yb,Yc]
   refine qac.tk 5 rfl 71 trivial (fun w' _=>by go_simp;first|done|rfl|(rw[if_neg (by omega)])) ?_
   try simp only[Act.put,Ya,Yb,Yc]
   refine qac.tk 6 rfl 72 trivial (fun w' _=>by go_simp;first|done|rfl|(rw[if_neg (by omega)])) ?_
   try simp only[Act.put,Ya,Yb,Yc]
   refine qac.tk 7 rfl 73 trivial (fun w' _=>by go_simp;first|done|rfl|(rw[if_neg (by omega)])) ?_
   try simp only[Act.put,Ya,Yb,Yc]
   refine qac.tk 8 rfl 74 trivial (fun w' _=>by go_simp;first|done|rfl|(rw[if_neg (by omega)])) ?_
   try simp only[Act.put,Ya,Yb,Yc]
   refine qac.tk 9 rfl 75 trivial (fun w' _=>by go_simp;first|done|rfl|(rw[if_neg (by omega)])) ?_
   try simp only[Act.put,Ya,Yb,Yc]
   refine qac.tk 10 rfl 76 trivial (fun w' _=>by go_simp;first|done|rfl|(rw[if_neg (by omega)])) ?_
   try simp only[Act.put,Ya,Yb,Yc]
   refine qac.tk 11 rfl 77 trivial (fun w' _=>by go_simp;first|done|rfl|(rw[if_neg (by omega)])) ?_
   try simp only[Act.put,Ya,Yb,Yc]
   refine qac.tk 12 rfl 78 trivial (fun w' _=>by go_simp;first|done|rfl|(rw[if_neg (by omega)])) ?_
   try simp only[Act.put,Ya,Yb,Yc]
   refine qac.tk 13 rfl 79 trivial (fun w' _=>by go_simp;first|done|rfl|(rw[if_neg (by omega)])) ?_
   try simp only[Act.put,Ya,Yb,Yc]
   refine qac.tk 14 rfl 80 trivial (fun w' _=>by go_simp;first|done|rfl|(rw[if_neg (by omega)])) ?_
   try simp only[Act.put,Ya,Yb,Yc]
   refine qac.tk 15 rfl 81 trivial (fun w' _=>by go_simp;first|done|rfl|(rw[if_neg (by omega)])) ?_
   try simp only[Act.put,Ya,Yb,Yc]
   refine qac.tk 16 rfl 82 trivial (fun w' _=>by go_simp;first|done|rfl|(rw[if_neg (by omega)])) ?_
   try simp only[Act.put,Ya,Yb,Yc]
   refine qac.tk 17 rfl 83 trivial (fun w' _=>by go_simp;first|done|rfl|(rw[if_neg (by omega)])) ?_
   try simp only[Act.put,Ya,Yb,Yc]
   refine qac.tk 18 rfl 84 trivial (fun w' _=>by go_simp;first|done|rfl|(rw[if_neg (by omega)])) ?_
   try simp only[Act.put,Ya,Yb,Yc]
   refine qac.tk 19 rfl 85 trivial (fun w' _=>by go_simp;first|done|rfl|(rw[if_neg (by omega)])) ?_
   try simp only[Act.put,Ya,Yb,Yc]
   refine qac.tk 20 rfl 86 trivial (fun w' _=>by go_simp;first|done|rfl|(rw[if_neg (by omega)])) ?_
   try simp only[Act.put,Ya,Yb,Yc]
   refine qac.tk 21 rfl 87 trivial (fun w' _=>by go_simp;first|done|rfl|(rw[if_neg (by omega)])) ?_
   try simp only[Act.put,Ya,Yb,Yc]
   refine qac.tk 22 rfl 88 trivial (fun w' _=>by go_simp;first|done|rfl|(rw[if_neg (by omega)])) ?_
   try simp only[Act.put,Ya,Yb,Yc]
   refine qac.tk 23 rfl 89 trivial (fun w' _=>by go_simp;first|done|rfl|(rw[if_neg (by omega)])) ?_
   try simp only[Act.put,Ya,Yb,Yc]
   refine qac.tk 24 rfl 90 trivial (fun w' _=>by go_simp;first|done|rfl|(rw[if_neg (by omega)])) ?_
   try simp only[Act.put,Ya,Yb,Yc]
   refine qac.tk 25 rfl 91 trivial (fun w' _=>by go_simp;first|done|rfl|(rw[if_neg (by omega)])) ?_
   try simp only[Act.put,Ya,Yb,Yc]
   refine qac.tk 26 rfl 92 trivial (fun w' _=>by go_simp;first|done|rfl|(rw[if_neg (by omega)])) ?_
   try simp only[Act.put,Ya,Yb,Yc]
   refine qac.tk 27 rfl 93 trivial (fun w' _=>by go_simp;first|done|rfl|(rw[if_neg (by omega)])) ?_
   try simp only[Act.put,Ya,Yb,Yc]
   refine qac.tk 28 rfl 94 trivial (fun w' _=>by go_simp;first|done|rfl|(rw[if_neg (by omega)])) ?_
   try simp only[Act.put,Ya,Yb,Yc]
   refine qac.tk 29 rfl 95 trivial (fun w' _=>by go_simp;first|done|rfl|(rw[if_neg (by omega)])) ?_
   try simp only[Act.put,Ya,Yb,Yc]
   refine qac.tk 30 rfl 96 trivial (fun w' _=>by go_simp;first|done|rfl|(rw[if_neg (by omega)])) ?_
   try simp only[Act.put,Ya,Yb,Yc]
   refine qac.tk 31 rfl 97 trivial (fun w' _=>by go_simp;first|done|rfl|(rw[if_neg (by omega)])) ?_
   try simp only[Act.put,Ya,Yb,Yc]
   refine qac.tk 32 rfl 98 trivial (fun w' _=>by go_simp;first|done|rfl|(rw[if_neg (by omega)])) ?_
   try simp only[Act.put,Ya,Yb,Yc]
   refine qac.tk 33 rfl 99 trivial (fun w' _=>by go_simp;first|done|rfl|(rw[if_neg (by omega)])) ?_
   try simp only[Act.put,Ya,Yb,Yc]
   refine qac.tk 34 rfl 100 trivial (fun w' _=>by go_simp;first|done|rfl|(rw[if_neg (by omega)])) ?_
   try simp only[Act.put,Ya,Yb,Yc]
   refine qac.tk 35 rfl 101 trivial (fun w' _=>by go_simp;first|done|rfl|(rw[if_neg (by omega)])) ?_
   try simp only[Act.put,Ya,Yb,Yc]
   refine qac.tk 36 rfl 102 trivial (fun w' _=>by go_simp;first|done|rfl|(rw[if_neg (by omega)])) ?_
   try simp only[Act.put,Ya,Yb,Yc]
   obtain⟨ie,hie,hz0,hz1,hz2⟩:=info_parts Tryz.info9n;refine qac.stq 37 rfl fun K hK=>?_
   rw[if_pos (by rfl)];refine qj4 25 9 (.tmp 72) (.tmp 80) (.tmp 90) (.tmp 93) (.tmp 96) (.tmp 102) rfl _ _ _ _ _ _ rfl rfl rfl rfl rfl rfl ie _ Tryz.underlying25 hie hz0 hz1 ?_;intro T wA HT XA hlt;refine hK _ _ trivial ?_;clear hK K ie hie hz0 hz1 hz2;refine qac.lst rfl fun K hK=>?_
   go_simp;refine hK _ _ ?_;clear hK K e0 e1 e2 e3 hl4 HB0 HB1 hsz hsR hn2 GA GD;have XB:=qaa (bt XD.out XA Yi);have Rv:=qaa (OP.out.up XA);have NJ:Hid (∀V,Below wA.heap.size wA V→∀j,j<6→V.cell? ⟨w3.heap.size,j,none⟩=some (.string (T j))):=fun V y j hj=>by
    rw[←HT j hj];exact Below.cell y hlt
   clear XD OP XA HT hlt;generalize w3.heap.size=gT at *;go_wp2;go_loopg [15] 7 (fun gg x15 wr=>∃j:Nat,x15=.int .i64 (j:Nat)∧j≤6∧Hid (Below wA.heap.size wA wr)∧6-j<gg)
   case atStart=>exact⟨0,rfl,by omega,qaa Yj,by omega⟩
   case round=>
    obtain⟨j,rfl,hj,XW,hg⟩:=hrel;have HG:=qaa hg;clear hg;by_cases OT:j=6
    ·subst OT
     go_wp2;go_ret;exact⟨rfl,bt XB.out XW.out Yi⟩
    have hjj:j<6:=by omega
    have hji:(j:Int)<6:=by omega
    have HJ:=qaa hjj;have c:=NJ.out wr XW.out j hjj;have fw:IntKind.i64.wrap ((j:Int)+1)=((j+1:Nat):Int):=by simp[IntKind.wrap,IntKind.bits,IntKind.signed];omega
    have LV:=qaa (ql9 (T j) wr (Rv.out.up XW.out));have NK:=qaa (fun V=>qj3 (T j) V);have OU:=qaa (fun V y=>NJ.out V y j hjj);clear OT hjj hj NJ;generalize T j=B at *;unfold qta at LV NK;generalize (qs1 B.data.toList).1=c1 at *;generalize (qs1 B.data.toList).2=q1 at *;generalize lsP B.data.toList=L1 at *;go_wp2_with (fail);refine LV.out.mono ?_;rintro e w5 ⟨⟨a1,p1,cs1,bs1,rfl,P1⟩,x5⟩;clear LV c;have XC:=qaa (bt x5 (show Below w5.heap.size w5 (w5.alloc (.cells #[.slice a1 L1.length p1] 36)) from al Yj _) Yi);have PA:=qaa (P1.below (show Below w5.heap.size w5 (w5.alloc (.cells #[.slice a1 L1.length p1] 36)) from al Yj _));have BA:=qaa (Yh w5 (.cells #[.slice a1 L1.length p1] 36));clear P1 x5;go_upto_region 15 with fail
    generalize w5.heap.size=b1 at *;generalize w5.alloc (.cells #[.slice a1 L1.length p1] 36)=w6 at *;have XE:=qaa (bt XW.out XC.out Yi);have c:=OU.out w6 XE.out;clear XW XC OU;go_wp2_with (fail);refine(NK.out w6).mono ?_;rintro e w7 ⟨⟨a2,p2,cs2,bs2,rfl,P2⟩,x7⟩;clear NK c;have X8:=qaa (bt x7 (show Below w7.heap.size w7 (w7.alloc (.cells #[.slice a2 L1.length p2] 36)) from al Yj _) Yi);have PC:=qaa (P2.below (show Below w7.heap.size w7 (w7.alloc (.cells #[.slice a2 L1.length p2] 36)) from al Yj _));have BC:=qaa (Yh w7 (.cells #[.slice a2 L1.length p2] 36));clear P2 x7;go_upto_region 16 with fail
    generalize w7.heap.size=b2 at *;generalize w7.alloc (.cells #[.slice a2 L1.length p2] 36)=w8 at *;have PB:=qaa (PA.out.below X8.out);have BB:=qaa ((X8.out.block b1 (Yd BA.out)).trans BA.out);have XF:=qaa (bt XE.out X8.out Yi);clear PA BA XE X8;have OV:=qaa (qod PB.out PC.out);have r1:w8.cell? ⟨b1,0,none⟩=some (.slice a1 L1.length p1):=by rw[Ye _ _ _ _ _ _ BB.out];rfl
    have r2:w8.cell? ⟨b2,0,none⟩=some (.slice a2 L1.length p2):=by rw[Ye _ _ _ _ _ _ BC.out];rfl
    clear PB PC BB BC;go_wp2_with (fail);refine OV.out.mono ?_;rintro e w9 ⟨rfl,x9⟩;have XG:=qaa (bt XF.out x9 Yi);clear x9 XF OV r1 r2;have hc:(c1 !=c1)=false:=by simp
    have hq:(q1 !=q1)=false:=by simp
    go_wp2;go_roundg (6-(j+1)+1)
    case measure=>have:=HG.out;have:=HJ.out;omega
    case rel=>exact⟨j+1,by first|rfl|(rw[show wrap64 ((j:Int)+1)=((j+1:Nat):Int) from fw]),by have:=HJ.out;omega,XG,by omega⟩
end Go.Proofs.YtlmhofjiobmodaaGreatDoor

