/-
  Scan by its contract, of any source. Condition: the library's ErrRange reads as its text lays it.
-/
import Derived.Test.YtlmhofjiobmodaaGreatDoorP05
import Derived.Test.YtlmhofjiobmodaaGreatDoorP32
set_option maxRecDepth 100000
set_option maxHeartbeats 16000000
namespace Go.Proofs.YtlmhofjiobmodaaGreatDoor
open Go.RowKit Go.Lib
def qbb (s:By):Except (Int×Int) (List Tk):=
 if 8000<s.length then .error (84,8000)
 else if (qat s 0 x0 s).1≠0 then .error ((qat s 0 x0 s).1,(qat s 0 x0 s).2.fr)
 else if (qde s (qat s 0 x0 s).2).1≠0 then .error ((qde s (qat s 0 x0 s).2).1,(qde s (qat s 0 x0 s).2).2.fr)
 else .ok (qde s (qat s 0 x0 s).2).2.tk
def qji (s:By) (base:Nat) (e:Ending) (w:World):Prop:=
 match qbb s with
 |.error (c,q)=>e=.returned (.tuple #[.slice none 0 0,.int .i64 c,.int .i64 q])
 |.ok L=>∃tv,e=.returned (.tuple #[tv,.int .i64 0,.int .i64 0])∧w.ownsRow base 49 6 tv L.length (tkC L)
theorem qc1 {s:By} (hs:s.length≤8000) {y:Int×SS} (h:qat s 0 x0 s=y):qbb s=if y.1≠0 then .error (y.1,y.2.fr) else if (qde s y.2).1≠0 then .error ((qde s y.2).1,(qde s y.2).2.fr) else .ok (qde s y.2).2.tk:=by
 unfold qbb;rw[if_neg (by omega),h]
theorem qlq {s:By} {pos:Nat} (hp:pos<s.length) {x:SS} (ho:OkS s pos x) {F:Int×SS} (hF:qat s pos x (s.drop pos)=F):
 0<(Utf8.decode ⟨s.toArray⟩ pos).2∧((qap s x pos ((Utf8.decode ⟨s.toArray⟩ pos).1:Nat)).1=0→OkS s (pos+(Utf8.decode ⟨s.toArray⟩ pos).2) (qap s x pos ((Utf8.decode ⟨s.toArray⟩ pos).1:Nat)).2∧qat s (pos+(Utf8.decode ⟨s.toArray⟩ pos).2) (qap s x pos ((Utf8.decode ⟨s.toArray⟩ pos).1:Nat)).2 (s.drop (pos+(Utf8.decode ⟨s.toArray⟩ pos).2))=F∧pos+(Utf8.decode ⟨s.toArray⟩ pos).2≤s.length)∧((qap s x pos ((Utf8.decode ⟨s.toArray⟩ pos).1:Nat)).1≠0→F=qap s x pos ((Utf8.decode ⟨s.toArray⟩ pos).1:Nat)):=by
 have hsz:=qa5 s;have hd:s.drop pos=s[pos]::s.drop (pos+1):=List.drop_eq_getElem_cons hp;by_cases hb:s[pos].toNat<128
 ·rw[qo0 s hp hb]
  rw[hd,qat] at hF;refine⟨Nat.one_pos,fun h0=>?_,fun h0=>?_⟩
  ·have h0':(qap s x pos (bI s[pos])).1=0:=h0
   rw[if_pos h0'] at hF;exact⟨qpz hp ho h0',hF,hp⟩
  ·have h0':¬(qap s x pos (bI s[pos])).1=0:=h0
   rw[if_neg h0'] at hF;exact hF.symm
 ·obtain⟨hr,hw⟩:=qhv s hp hb
  have hget:∀j (hj:j<s.length),((⟨s.toArray⟩:ByteArray).get! j)=s[j]:=fun j hj=>by
   have hj':j<(⟨s.toArray⟩:ByteArray).size:=by rw[hsz];exact hj
   have e1:(⟨s.toArray⟩:ByteArray).get! j=(⟨s.toArray⟩:ByteArray)[j]'hj':=by
    show s.toArray[j]! =_;rw[getElem!_pos s.toArray j (by simpa using hj)];rfl
   rw[e1,qcz]
  obtain⟨hw1,hw2⟩:=qp1 ⟨s.toArray⟩ pos (by rw[hsz];exact hp) (by rw[hget pos hp];omega);rw[hsz] at hw1;generalize (Utf8.decode ⟨s.toArray⟩ pos).2=wd at *;generalize (Utf8.decode ⟨s.toArray⟩ pos).1=r at *;have hr':(128:Int)≤(r:Int):=by omega
  have hall:∀j (hj:j<s.length),pos≤j→j<pos+wd→128≤s[j].toNat:=fun j hj h1 h2=>by
   have:=hw2 j h1 h2;rw[hget j hj] at this;exact this
  by_cases h1:x.st=1
  ·rw[qef s x pos hr',if_pos h1]
   refine⟨hw,fun _=>⟨ho.next (by omega) (by omega),?_,hw1⟩,fun h=>absurd rfl h⟩;rw[←qii s x h1 wd pos hw1 hall];exact hF
  ·rw[qef s x pos hr',if_neg h1]
   refine⟨hw,fun h=>absurd h (qp0 s x pos h1),fun h=>?_⟩;rw[hd,qat,qef s x pos (r:=bI s[pos]) (by unfold bI;omega),if_neg h1,if_neg h] at hF;exact hF.symm
theorem qrm (s:By) (w:World) (hs:s.length≤8000) (hev:qfx w.heap.size w):
 Calls Tryz.prog 16 #[.string ⟨s.toArray⟩] w fun e w'=>qji s w.heap.size e w'∧Below w.heap.size w w':=by
 have hsz:=qa5 s;have hl':¬(8000:Int)<(s.length:Int):=by omega
 obtain⟨w2,hw2⟩:∃w2,w2=w.alloc (.cells #[.string ⟨s.toArray⟩,.slice none 0 0,.int .i64 0,.int .i64 0,.pointer none,.slice none 0 0] 89):=⟨_,rfl⟩;have X2:Below w.heap.size w w2:=by rw[hw2];exact al Yj _
 have S2:Hid (Sc w2 w.heap.size w.heap.size s x0 (.slice none 0 0) (.pointer none) (.slice none 0 0)):=⟨by rw[hw2];exact Yh w _,Nat.le_refl _,.inl rfl,World.ownsRow_nil _ _ _ _,World.ownsRow_nil _ _ _ _,fun _=>rfl⟩;have hs2:w2.heap.size=w.heap.size+1:=by rw[hw2];simp
 have Bl:=qaa X2;have ET:=qaa hev;clear X2 hev;go_enter Tryz.func16,Tryz.ntmps16;go_upto_region 4 with fail
 rw[←hw2];clear hw2;go_wp2;obtain⟨P,hP⟩:∃P,P=w.heap.size:=⟨_,rfl⟩;have Dj:=qaa hP;rw[←hP];rw[←hP] at S2 Bl ET;have HS2:Hid (w2.heap.size=P+1):=by unfold Hid;rw[hs2,hP]
 clear hP hs2;go_loopw [] (fun wr=>∃(pos:Nat) (x:SS),wr.heap[P+1]? =some (.stringIter ⟨s.toArray⟩ pos)∧Hid (ScA wr P P s x)∧Hid (Below P w wr)∧pos≤s.length∧Hid (OkS s pos x)∧Hid (qat s pos x (s.drop pos)=qat s 0 x0 s)) (fun wr=>s.length-wr.iterPos (P+1))
 case atStart=>
  refine⟨0,x0,?_,⟨_,_,_,S2.out.below ((Below.refl _ w2).alloc Yi _)⟩,?_,by omega,⟨by decide,by decide,by decide,by decide,fun e=>by cases e⟩,rfl⟩
  ·have:=World.iter_heap w2 ⟨s.toArray⟩ 0
   rw[HS2.out] at this;exact this
  ·have:=(Below.refl w2.heap.size w2).alloc Yi (.stringIter ⟨s.toArray⟩ 0)
   have h2:=bt Bl.out this (by rw[Dj.out];exact Nat.le_refl _);exact h2
 case round=>
  obtain⟨pos,x,hit,HA,HB,hp1,HO,HF⟩:=hrel;have hPs:P≤wr.heap.size:=by have:=HB.out.size;have:=Dj.out;omega
  by_cases hp:pos<s.length
  ·have hnx:∀ty,(Instr.next (.pointer (some ⟨P+1,0,none⟩)) true ty).run Tryz.prog wr=_:=fun ty=>Lib.run_next_any_at wr (P+1) ⟨s.toArray⟩ pos ty hit (by rw[hsz];exact hp)
   obtain⟨hwd,hgood,hbad⟩:=qlq hp HO.out HF.out;generalize (Utf8.decode ⟨s.toArray⟩ pos).2=wd at *;generalize (Utf8.decode ⟨s.toArray⟩ pos).1=r at *;have hit2:=Lib.iterAt_heap wr (P+1) ⟨s.toArray⟩ pos (pos+wd) hit;have hA2:=HA.out.iter hit (pos+wd);have hB2:=Lib.below_iterAt HB.out (k:=P+1) (by omega) ⟨s.toArray⟩ (pos+wd);have hsz2:P≤(wr.iterAt (P+1) ⟨s.toArray⟩ (pos+wd)).heap.size:=by rw[Lib.iterAt_size];exact hPs
   have HST:=qaa (qst hA2 pos (r:Int) (by omega) HO.out (by omega) hs (ET.out.below hB2) hsz2);have HIT:=qaa hit;have HI2:=qaa hit2;have HB2:=qaa hB2;have HZ2:=qaa hsz2;have M0:=qaa hgood;have M7:=qaa hbad;clear hA2 hB2 hit hit2 hsz2 HO HF HA hgood hbad;generalize qap s x pos (r:Int)=y at *;obtain⟨y1,y2⟩:=y;simp only at HST M0 M7;by_cases hy:y1=0
   ·subst hy
    obtain⟨g1,g2,g3⟩:=M0.out rfl;have Dw:=qaa g1;have Rq:=qaa g2;clear M0 M7 g1 g2;go_wp2_with (go_at_call 37;refine HST.out.mono ?_;rintro e w3 ⟨rfl,hA,hK,hS⟩;have Ey:=qaa hA;have Db:=qaa hK;clear hA hK hS);have HI3:=qaa (Db.out.block' HI2.out (by omega) (fun c f e'=>by cases e') (fun c f e'=>by cases e'));have HB3:=qaa (HB2.out.trans (Db.out.to_below Yi HZ2.out));go_roundw
    case rel=>exact⟨pos+wd,y2,HI3.out,Ey,HB3,g3,Dw,Rq⟩
    case measure=>
     simp only[World.iterPos,HI3.out,HIT.out];omega
   ·have hy1:(y1==0)=false:=by simp[hy]
    have Dq:Hid (qbb s=.error (y1,y2.fr)):=by unfold Hid;rw[qc1 hs (M7.out hy),if_pos hy]
    clear M0 M7;go_wp2_with (go_at_call 37;refine HST.out.mono ?_;rintro e w3 ⟨rfl,hA,hK,hS⟩;obtain⟨tv,ad,bv,hA⟩:=hA;obtain⟨-,-,c3,-,-⟩:=hA.cells;have Db:=qaa hK;clear hA hK hS);have HB3:=qaa (HB2.out.trans (Db.out.to_below Yi HZ2.out));go_region
    all_goals
     go_wp2;refine Yg (by simp[results,Tryz.results16,go_sem];rfl) rfl ?_;refine⟨?_,by have:=Dj.out;rw[←this];exact Below.drew HB3.out⟩;unfold qji;rw[Dq.out]
  ·obtain rfl:pos=s.length:=by omega
   have hnx:∀ty,(Instr.next (.pointer (some ⟨P+1,0,none⟩)) true ty).run Tryz.prog wr=_:=fun ty=>Lib.run_next_end_at wr (P+1) ⟨s.toArray⟩ s.length ty hit (by rw[hsz];exact hp)
   have hF:=HF.out;rw[List.drop_length,qat] at hF;have EA:=qaa (qtx HA.out HO.out hs (ET.out.below HB.out) hPs);have GI:=qaa (qc1 hs hF.symm);clear hF HF HO;simp only at GI;generalize qde s x=y at *;obtain⟨y1,y2⟩:=y;simp only at EA GI;by_cases hy:y1=0
   ·subst hy
    have Dq:Hid (qbb s=.ok y2.tk):=by unfold Hid;rw[GI.out];simp
    clear GI;go_wp2_with (go_at_call 38;refine EA.out.mono ?_;rintro e w3 ⟨rfl,hA,hK,hS⟩;obtain⟨tv,ad,bv,hA⟩:=hA;have c1:=Ye _ _ 1 _ _ _ hA.blk;have Ey:=qaa hA;have Db:=qaa hK;clear hA hK hS);have HB3:=qaa (HB.out.trans (Db.out.to_below Yi hPs));refine Yg (by simp[results,Tryz.results16,go_sem];rfl) rfl ?_;refine⟨?_,by have:=Dj.out;rw[←this];exact HB3.out⟩;unfold qji;rw[Dq.out];exact⟨tv,rfl,by have:=Dj.out;rw[←this];exact Ey.out.tok⟩
   ·have hy1:(y1==0)=false:=by simp[hy]
    have Dq:Hid (qbb s=.error (y1,y2.fr)):=by unfold Hid;rw[GI.out];simp[hy]
    clear GI;go_wp2_with (go_at_call 38;refine EA.out.mono ?_;rintro e w3 ⟨rfl,hA,hK,hS⟩;obtain⟨tv,ad,bv,hA⟩:=hA;obtain⟨-,-,c3,-,-⟩:=hA.cells;have Db:=qaa hK;clear hA hK hS);have HB3:=qaa (HB.out.trans (Db.out.to_below Yi hPs));go_region
    all_goals
     go_wp2;refine Yg (by simp[results,Tryz.results16,go_sem];rfl) rfl ?_;refine⟨?_,by have:=Dj.out;rw[←this];exact Below.drew HB3.out⟩;unfold qji;rw[Dq.out]
end Go.Proofs.YtlmhofjiobmodaaGreatDoor

