/-
  The document's numbered by its contract: the one form. Condition: the automaton may be; parts of states that have the same label for each text that follows.
-/
import Derived.Deep.AppendLies
import Derived.Deep.RegionLaw
import Derived.Deep.RegionHeld3
import Derived.Test.YtdgoilkgplnhfaaGreatJ40
import Derived.Test.YtdgoilkgplnhfaaGreatJ30
namespace Go.Proofs.YtdgoilkgplnhfaaGreat
open Go.RowKit Go.Lib
def sC (G:List Nat) (m:Nat):List Value:=G.map fun g=>Value.slice (some ⟨g,0,none⟩) m m
theorem qf6 (G:List Nat) (m:Nat):(sC G m).length=G.length:=by simp[sC]
def qil (RR:List VR) (G:List Nat) (R:List (List Nat)) (m:Nat):Prop:=G.length=R.length∧∀j,j<R.length→(R.getD j []).length=m∧∃i,∃h:i<RR.length,RR[i]=(.slice (some ⟨gN G j,0,none⟩) m m,3,qab (R.getD j []))
theorem qil.nil (RR:List VR) (m:Nat):qil RR [] [] m:=⟨rfl,fun j hj=>(by cases hj)⟩
theorem qil.add {RR:List VR} {G:List Nat} {R:List (List Nat)} {m g:Nat} {L:List Nat} (h:qil RR G R m) (hl:L.length=m):qil ((.slice (some ⟨g,0,none⟩) m m,3,qab L)::RR) (G++[g]) (R++[L]) m:=by
 refine⟨by simp[h.1],fun j hj=>?_⟩;by_cases e:j<R.length
 ·have e1:(R++[L]).getD j []=R.getD j []:=by simp[List.getD_eq_getElem?_getD,List.getElem?_append,e]
  obtain⟨h1,i,hi,h2⟩:=h.2 j e;rw[e1,qau (by rw[h.1];exact e)];exact⟨h1,i+1,by simp;exact hi,by simp;exact h2⟩
 ·have e2:j=R.length:=by simp at hj;omega
  subst e2;have e1:(R++[L]).getD R.length []=L:=by simp[List.getD_eq_getElem?_getD]
  have e3:=qat G g;rw[h.1] at e3;rw[e1,e3];exact⟨hl,0,by simp,by simp⟩
theorem qil.at {w0 V:World} {RR:List VR} {G:List Nat} {R:List (List Nat)} {m k:Nat} {Q:List VR} {ra:Option Addr} {rn rc:Nat} (h:qil RR G R m) (F:Fr w0 (Q++RR) V) (hk:k<Q.length) (hQ:Q[k]=(.slice ra rn rc,22,sC G m)):qpa V ra R:=by
 by_cases h0:R.length=0
 ·exact .inl (List.eq_nil_of_length_eq_zero h0)
 have hkl:k<(Q++RR).length:=by simp;omega
 have eQ:(Q++RR)[k]=(.slice ra rn rc,22,sC G m):=by rw[List.getElem_append_left hk];exact hQ
 obtain⟨g,e,_,_⟩:=F.cell hkl eQ (k:=0) (by rw[qf6,h.1];omega);refine .inr ⟨g,0,e,fun i hi=>?_⟩;subst e;obtain⟨s0,_⟩:=F.slot hkl eQ (k:=i) (by rw[qf6,h.1];exact hi);obtain⟨h1,j,hj,h2⟩:=h.2 i hi;have eR:R.getD i []=R[i]:=by simp[List.getD_eq_getElem?_getD,hi]
 rw[eR] at h1 h2;have hjl:Q.length+j<(Q++RR).length:=by simp;exact hj
 have e2:(Q++RR)[Q.length+j]=(.slice (some ⟨gN G i,0,none⟩) m m,3,qab R[i]):=by
  rw[List.getElem_append_right (by omega)];simp only[Nat.add_sub_cancel_left];exact h2
 obtain⟨a,c,e3,hn⟩:=F.nat hjl e2;simp only[Value.slice.injEq] at e3;refine⟨some ⟨gN G i,0,none⟩,m,?_,by rw[e3.1];exact hn⟩;rw[Nat.zero_add,s0,h1];have hig:i<G.length:=by rw[h.1];exact hi
 simp[sC,qah hig]
theorem qil.more {RR:List VR} {G:List Nat} {R:List (List Nat)} {m:Nat} (h:qil RR G R m) (x:VR):qil (x::RR) G R m:=by
 refine⟨h.1,fun j hj=>?_⟩;obtain⟨h1,i,hi,h2⟩:=h.2 j hj;exact⟨h1,i+1,by simp;exact hi,by simp;exact h2⟩
theorem Fr.rot5 {w0 w:World} {a b c d e:VR} {R:List VR} (h:Fr w0 (a::b::c::d::e::R) w):Fr w0 (b::c::d::e::a::R) w:=by
 refine h.sel (fun j=>if j<4 then j+1 else if j=4 then 0 else j) (fun j hj=>?_) (fun j _ k _ e=>?_)
 ·match j,hj with
  |0,_=>exact⟨by simp,by simp⟩
  |1,_=>exact⟨by simp,by simp⟩
  |2,_=>exact⟨by simp,by simp⟩
  |3,_=>exact⟨by simp,by simp⟩
  |4,_=>exact⟨by simp,by simp⟩
  |j+5,hj=>
   have hj':j<R.length:=by simpa using hj
   have e:(if j+5<4 then j+5+1 else if j+5=4 then 0 else j+5)=j+5:=by rw[if_neg (by omega),if_neg (by omega)]
   exact⟨by rw[e];simp;exact hj',by simp only[e];simp⟩
 ·have key:∀j:Nat,(if j<4 then j+1 else if j=4 then 0 else j)=j+1∧j<4∨(if j<4 then j+1 else if j=4 then 0 else j)=0∧j=4∨(if j<4 then j+1 else if j=4 then 0 else j)=j∧4<j:=fun j=>by
   by_cases h1:j<4
   ·simp[h1]
   ·by_cases h2:j=4
    ·simp[h2]
    ·simp[h1,h2];omega
  have h1:=key j;have h2:=key k;omega
theorem qns (G:List Nat) (m g:Nat):sC (G++[g]) m=sC G m++[.slice (some ⟨g,0,none⟩) m m]:=by simp[sC]
theorem qnt {D:DF} {f one:Nat→Nat} {m c:Nat} {L:List Nat} (hl:L.length=m) (h:∀p,p<m→gN L p=f (D.nx (one p) c)):L=qdh D f one m c:=by
 refine qhu (by rw[qex];exact hl) (fun k hk=>?_);rw[qex] at hk;rw[h k hk,qdb _ _ _ _ _ hk]
theorem Fr.lies {w0 w w5 w':World} {R:List VR} (h:Fr w0 R w) (x5:Below w.heap.size w w5) {i:Nat} (hi:i<R.length) {v x:Value} {e:TypeId} {L:List Value} {g6 cap6:Nat} (hR:R[i]=(v,e,L)) (h1:w'.ownsRow w0.heap.size e 1 (.slice (some ⟨g6,0,none⟩) (L.length+1) cap6) (L.length+1) (L++[x])) (h2:w5.grownBy w' v.ownBlock) (h3:v.ownBlock=some g6∨g6=w5.heap.size):Fr w0 (R.set i (.slice (some ⟨g6,0,none⟩) (L.length+1) cap6,e,L++[x])) w':=by
 have h5:=h.below x5;have o:w'.ownsRow w0.heap.size e 1 (.slice (some ⟨g6,0,none⟩) (L.length+1) cap6) (L++[x]).length (L++[x]):=by
  rw[List.length_append,List.length_singleton];exact h1
 have ov:=h5.own hi hR;have hv:(R[i]).1=v:=by rw[hR]
 have k6:=qae h2;refine⟨h5.rs.upd hi o k6 (fun k hk=>by rw[hv];exact hk) (fun k hk=>?_),h5.bel.trans (k6.below h5.bel.size (fun k hk=>(World.ownsRow.lt ov k hk).1))⟩;have e6:g6=k:=Option.some.inj hk;subst e6;rw[hv];rcases h3 with h3|h3
 ·exact .inl h3
 ·exact .inr (by omega)
theorem qbh (L:List Nat):(qar L).length=L.length:=by simp[qar]
theorem Fr.two {w0 w:World} {xv ov:Value} {X O:List Nat} {R:List VR} (h:Fr w0 ((xv,3,qab X)::(ov,3,qab O)::R) w):Rws w w0.heap.size [(xv,X),(ov,O)]:=by
 have o0:=h.own (i:=0) (by simp) rfl;have o1:=h.own (i:=1) (by simp) rfl;rw[qaf] at o0 o1;refine⟨fun j hj=>?_,fun j hj k hk hne b h1 h2=>?_⟩
 ·match j,hj with
  |0,_=>exact o0
  |1,_=>exact o1
 ·match j,hj,k,hk with
  |0,_,0,_=>exact hne rfl
  |1,_,1,_=>exact hne rfl
  |0,_,1,_=>exact h.rs.ap 0 (by simp) 1 (by simp) (by decide) b h1 h2
  |1,_,0,_=>exact h.rs.ap 1 (by simp) 0 (by simp) (by decide) b h1 h2
theorem Tryz.info22n:(Tryz.prog.info? 22).map (fun i=>(i.zero,i.size,i.bytes))=some (some (.slice none 0 0),1,24):=by kernel_rfl
set_option maxRecDepth 100000 in
set_option maxHeartbeats 8000000 in
theorem ql6 (bs:By) (na oa la pa:Option Addr) (nc oc lc pc W m:Nat) (NX OU l PL:List Nat) (w:World) (hM:qbv bs NX OU) (hW:NX.length/OU.length=W) (hWm:W=mxL (ntL bs)+1) (hr:RdT (dfA bs NX OU) l) (hl0:gN l 0=0) (hll:l.length≤OU.length) (hpl:PL.length=OU.length) (hm:m≤256) (hd:DpS (dfA bs NX OU) l (gN PL) m) (heq:∀s∈l,∀t∈l,(gN PL s=gN PL t↔(dfA bs NX OU).Eqv s t)) (hnx:NAt w na NX) (hou:NAt w oa OU) (hla:NAt w la l) (hpa:NAt w pa PL):
 Calls Tryz.prog 39 #[auV bs na NX.length nc oa OU.length oc,.slice la l.length lc,.slice pa OU.length pc,.int .i64 (m:Nat)] w fun e w'=>(∃(bs':By) (xa:Option Addr) (xn xc:Nat) (oa':Option Addr) (on oc':Nat),e=.returned (auV bs' xa xn xc oa' on oc')∧∃NX' OU',qol bs NX OU w.heap.size bs' (.slice xa xn xc) (.slice oa' on oc') NX' OU' w')∧Below w.heap.size w w':=by
 obtain⟨i3,hi3,hz30,hz31,hz32⟩:=info_parts Tryz.info3n;obtain⟨i22,hi22,hz220,hz221,hz222⟩:=info_parts Tryz.info22n;obtain⟨i5,hi5,hz50,hz51,hz52⟩:=info_parts Tryz.info5n;have HI:Hid ((Tryz.prog.info? 24).map (·.size)=some 3):=by unfold Hid;kernel_rfl
 have hm0:0<m:=by have:=hd.lt 0 hr.z;omega
 have hn1:=hM.n1;have hxl:=hM.nxl;have hbl:=hM.bl;obtain⟨w2,hw2⟩:∃w2,w2=(w.alloc (.cells #[.string ⟨bs.toArray⟩,.slice na NX.length nc,.slice oa OU.length oc] 24)).alloc (.cells #[.string ⟨#[]⟩,.slice none 0 0,.slice none 0 0] 24):=⟨_,rfl⟩;obtain⟨X2,B1,B2,hs2⟩:=qap w #[.string ⟨bs.toArray⟩,.slice na NX.length nc,.slice oa OU.length oc] #[.string ⟨#[]⟩,.slice none 0 0,.slice none 0 0] 24 24;rw[←hw2] at X2 B1 B2 hs2;have HC:Hid (∀V,Below w2.heap.size w2 V→(V.cell? ⟨w.heap.size,0,none⟩=some (.string ⟨bs.toArray⟩)∧V.cell? ⟨w.heap.size,1,none⟩=some (.slice na NX.length nc)∧V.cell? ⟨w.heap.size,2,none⟩=some (.slice oa OU.length oc))∧V.heap[w.heap.size+1]? =some (.cells #[.string ⟨#[]⟩,.slice none 0 0,.slice none 0 0] 24 (0,0))∧NAt V na NX∧NAt V oa OU∧NAt V la l∧NAt V pa PL):=fun V x=>by
  have Bv:=(x.block _ (lt_of_block B1)).trans B1;have y:=bt X2 x (Nat.le_refl _);exact⟨⟨by rw[cell_of_row _ _ _ _ _ _ Bv];rfl,by rw[cell_of_row _ _ _ _ _ _ Bv];rfl,by rw[cell_of_row _ _ _ _ _ _ Bv];rfl⟩,(x.block _ (lt_of_block B2)).trans B2,hnx.below y,hou.below y,hla.below y,hpa.below y⟩
 have HX2:=qaa X2;have HS2:=qaa hs2;obtain⟨⟨c0,c1,c2⟩,-⟩:=HC.out w2 (Below.refl _ _);have HWD:=qaa (qb0 bs na oa NX.length nc OU.length oc w2 hbl);rw[←hWm] at HWD;unfold auV at HWD;have HM:=qaa hM;have HR:=qaa hr;have HD:=qaa hd;have HEQ:=qaa heq;have HW:=qaa hW;have HL0:=qaa hl0;clear X2 B1 B2 hs2 hnx hou hla hpa hM hr hd heq hW hWm hl0;unfold auV;go_enter Tryz.func39,Tryz.ntmps39;go_upto_region 1 with fail
 rw[←hw2];clear hw2;go_upto_region 2 with(go_at_call 68;refine HWD.out.mono ?_;rintro e w3 ⟨rfl,x3⟩;have X3:=qaa x3;clear x3)
 clear c0 c1 c2 HWD;go_upto_region 3 with(at_make;refine wpList_make_full _ rfl (.tmp 30) (.tmp 30) 22 rfl w3.heap.size 3 i3 (.int .i64 0) 1 Tryz.underlying22 hi3 hz30 hz31 .i64 .i64 _ _ m rfl rfl rfl rfl (by rw[hz32];omega) (by unfold maxLen;omega) (Nat.le_refl _) ?_;intro w4 m1 m2;have F4:=qaa ((Fr.start w3).mkN m1 m2);clear m1 m2)
 obtain⟨g1,hg1⟩:∃g1,g1=w3.heap.size:=⟨_,rfl⟩;rw[←hg1] at F4 ⊢;clear hg1;have HF3:Hid (∀V R,Fr w3 R V→Below w2.heap.size w2 V):=fun V R F=>bt X3.out F.bel (Nat.le_refl _)
 go_wp2;go_loopg [11] (l.length+1) (fun g x wr=>∃(k:Nat) (ON:List Nat),x=.int .i64 (k:Nat)∧k≤l.length∧Hid (Fr w3 [(.slice (some ⟨g1,0,none⟩) m m,3,qab ON)] wr)∧Hid (OnS l PL m k ON)∧l.length-k<g)
 case atStart=>exact⟨0,_,rfl,by omega,F4,OnS.start,by omega⟩
 case round=>
  clear F4;obtain⟨k,ON,rfl,hk1,F,S,hg⟩:=hrel;have HG:=qaa hg;clear hg;by_cases hk:k<l.length
  ·as_aux_lemma=>
   have hk':(k:Int)<(l.length:Int):=by omega
   obtain⟨_,_,kx,ko,kl,kp⟩:=HC.out wr (HF3.out _ _ F.out);have hs:gN l k<OU.length:=HR.out.n _ (qbo hk);have hp:gN PL (gN l k)<m:=HD.out.lt _ (qbo hk);obtain⟨lb,loff,rfl,-,-⟩:=kl.get hk;have sl:=kl.atG hk;obtain⟨pb,poff,rfl,-,-⟩:=kp.get (i:=gN l k) (by omega);have sp:=kp.atG (i:=gN l k) (by omega);have S2:=qaa (S.out.next hk hp);have hON:=S.out.len;obtain⟨s0,s1⟩:=F.out.slotN (i:=0) (by simp) rfl (k:=gN PL (gN l k)) (by omega);have F3:=qaa ((F.out.storeN (i:=0) (by simp) rfl (gN PL (gN l k)) (gN l k)).below (Below.refl _ _).drew);clear kx ko kl kp;generalize gN PL (gN l k)=p at *;generalize gN l k=s at *;have hs':(s:Int)<(OU.length:Int):=by omega
   have hp':(p:Int)<(m:Int):=by omega
   go_wp2;go_region
   all_goals
    go_wp2;go_roundg (l.length-(k+1)+1)
    case measure=>have:=HG.out;omega
    case rel=>exact⟨k+1,_,by first|rfl|go_num|(congr 1;omega),by omega,F3,S2,by omega⟩
  ·as_aux_lemma=>
   obtain⟨wb,rfl⟩:∃wb,wb=wr:=⟨_,rfl⟩;obtain rfl:k=l.length:=by omega
   have hk':¬(l.length:Int)<(l.length:Int):=by omega
   have HON:Hid (∀p,p<m→gN ON p∈l∧gN PL (gN ON p)=p):=S.out.done HD.out.hit;have hONl:=S.out.len;have F5:Hid (Fr w3 [(.slice none 0 0,22,sC [] m),(.slice (some ⟨g1,0,none⟩) m m,3,qab ON)] wb):=Fr.front (F.out.bare 22);clear F S HG hk hk1;go_upto_region 9 with(at_make;refine wpList_make_full _ rfl (.const (.int .i64 256)) (.const (.int .i64 256)) 22 rfl w3.heap.size 3 i3 (.int .i64 0) 1 Tryz.underlying22 hi3 hz30 hz31 .i64 .i64 _ _ 256 rfl rfl rfl rfl (by rw[hz32];decide) (by unfold maxLen;decide) F5.out.bel.size ?_;intro w6 m1 m2;have F6:Hid (Fr w3 [(.slice (some ⟨wb.heap.size,0,none⟩) 256 256,3,qab (zer 256)),(.slice none 0 0,22,sC [] m),(.slice (some ⟨g1,0,none⟩) m m,3,qab ON)] w6):=F5.out.mkN m1 m2;clear m1 m2)
   obtain⟨gc,hgc⟩:∃gc,gc=wb.heap.size:=⟨_,rfl⟩;rw[←hgc] at F6 ⊢;clear hgc F5;go_upto_region 10 with(at_make;refine wpList_make_full _ rfl (.const (.int .i64 256)) (.const (.int .i64 256)) 22 rfl w3.heap.size 3 i3 (.int .i64 0) 1 Tryz.underlying22 hi3 hz30 hz31 .i64 .i64 _ _ 256 rfl rfl rfl rfl (by rw[hz32];decide) (by unfold maxLen;decide) F6.out.bel.size ?_;intro w7 m1 m2;have F7:Hid (Fr w3 ([(.slice (some ⟨w6.heap.size,0,none⟩) 256 256,3,qab (zer 256)),(.slice (some ⟨gc,0,none⟩) 256 256,3,qab (zer 256)),(.slice none 0 0,22,sC [] m),(.slice (some ⟨g1,0,none⟩) m m,3,qab ON)]++[]) w7):=F6.out.mkN m1 m2;clear m1 m2)
   obtain⟨go,hgo⟩:∃go,go=w6.heap.size:=⟨_,rfl⟩;rw[←hgo] at F7 ⊢;clear hgo F6;have C0:Hid (CoS (dfA bs NX OU) (gN PL) (gN ON) m 0 [] (zer 256) (zer 256) []):=CoS.start;have I0:Hid (qil [] [] [] m):=qil.nil _ _;go_wp2;go_loopg [12,15] 257 (fun g x y wr=>∃(b:Nat) (R:List (List Nat)) (G OF CO F:List Nat) (RR:List VR),y=.int .i64 (b:Nat)∧b≤256∧Hid (Fr w3 ((.slice (some ⟨go,0,none⟩) 256 256,3,qab OF)::(.slice (some ⟨gc,0,none⟩) 256 256,3,qab CO)::(x,22,sC G m)::(.slice (some ⟨g1,0,none⟩) m m,3,qab ON)::RR) wr)∧Hid (CoS (dfA bs NX OU) (gN PL) (gN ON) m b R OF CO F)∧Hid (qil RR G R m)∧256-b<g)
   case atStart=>exact⟨0,[],[],_,_,[],[],rfl,by omega,F7,C0,I0,by omega⟩
   case round=>
    clear F7 C0 I0;obtain⟨b,R,G,OF,CO,F,RR,rfl,hb1,FR,S,I,hg⟩:=hrel;have HG:=qaa hg;clear hg;obtain⟨ra,rc,hv⟩:=FR.out.shape (i:=2) (by simp) rfl;rw[qf6,I.out.1] at hv;subst hv;have hfew:=S.out.few;have hOFl:=S.out.ol;have hCOl:=S.out.cl;by_cases hb:b<256
    ·have hb':(b:Int)<256:=by omega
     have hbb:b<bs.length:=by omega
     have hlb:(b:Int)<(bs.length:Int):=by omega
     obtain⟨y,hy⟩:∃y,bs[b]=y:=⟨_,rfl⟩;have hgy:∀hk,(⟨bs.toArray⟩:ByteArray)[b]'hk=y:=fun _=>hy
     have hyl:y.toNat<256:=y.toNat_lt;obtain⟨c,hc⟩:∃c,c=y.toNat:=⟨_,rfl⟩;rw[←hc] at hyl;have f2:IntKind.i64.wrap ((y.toNat:Nat):Int)=(c:Int):=by rw[←hc];exact qak _ (by omega)
     have ec:(dfA bs NX OU).bc b=c:=by
      show(bs.getD b 0).toNat=c;rw[List.getD_eq_getElem?_getD,List.getElem?_eq_getElem hbb,hy,hc];rfl
     have hcW:c<W:=by rw[←ec,←HW.out];exact HM.out.bw b hb
     have HOLD:=qaa (S.out.old hb);have HSAM:=qaa (fun p h1 h2=>S.out.same hb (by rw[ec];exact hyl) h1 (p:=p) h2);have HNEW:=qaa (S.out.new hb (by rw[ec];exact hyl));rw[ec] at HOLD HSAM HNEW;obtain⟨⟨c0,c1,c2⟩,-⟩:=HC.out wr (HF3.out _ _ FR.out);obtain⟨s0,s1⟩:=FR.out.slotN (i:=0) (by simp) rfl (k:=c) (by omega);obtain⟨s2,s3⟩:=FR.out.slotN (i:=1) (by simp) rfl (k:=b) (by omega);have hci:(c:Int)<256:=by omega
     clear hc hy ec;by_cases hq0:gN OF c=0
     ·rw[hq0] at s0
      have s0:wr.cell? ⟨go,c,none⟩=some (.int .i64 0):=s0;go_upto_region 16 with(at_make;refine wpList_make_full _ rfl (.tmp 67) (.tmp 67) 22 rfl w3.heap.size 3 i3 (.int .i64 0) 1 Tryz.underlying22 hi3 hz30 hz31 .i64 .i64 _ _ m rfl rfl rfl rfl (by rw[hz32];omega) (by unfold maxLen;omega) FR.out.bel.size ?_;intro w8 m1 m2;have F8:=qaa (FR.out.mkN m1 m2);clear m1 m2)
      obtain⟨gr,hgr⟩:∃gr,gr=wr.heap.size:=⟨_,rfl⟩;rw[←hgr] at F8 ⊢;clear hgr FR s0 s1 s2 s3 c0 c1 c2 HOLD hb';go_wp2;go_loopg [18] (m+1) (fun g x wr=>∃(p:Nat) (RL:List Nat),x=.int .i64 (p:Nat)∧p≤m∧Hid (Fr w3 ((.slice (some ⟨gr,0,none⟩) m m,3,qab RL)::(.slice (some ⟨go,0,none⟩) 256 256,3,qab OF)::(.slice (some ⟨gc,0,none⟩) 256 256,3,qab CO)::(.slice ra R.length rc,22,sC G m)::(.slice (some ⟨g1,0,none⟩) m m,3,qab ON)::RR) wr)∧RL.length=m∧Hid (∀p',p'<p→gN RL p'=gN PL ((dfA bs NX OU).nx (gN ON p') c))∧m-p<g)
      case atStart=>exact⟨0,_,rfl,by omega,F8,by rw[List.length_replicate],fun p' h=>by omega,by omega⟩
      case round=>
       clear F8;obtain⟨p,RL,rfl,hp1,FR,hRL,HV,hg⟩:=hrel;have HG2:=qaa hg;clear hg;by_cases hp:p<m
       ·as_aux_lemma=>
        have hp':(p:Int)<(m:Int):=by omega
        obtain⟨⟨c0,c1,c2⟩,_,kx,_,_,kp⟩:=HC.out wr (HF3.out _ _ FR.out);obtain⟨h1,h2⟩:=HON.out p hp;have hs:gN ON p<OU.length:=HR.out.n _ h1;have hix:gN ON p*W+c<NX.length:=by rw[HM.out.wl,HW.out];exact qcd hs hcW
        have ht:gN NX (gN ON p*W+c)<OU.length:=by rw[qah hix];exact HM.out.nl _ (List.getElem_mem hix)
        obtain⟨xb,xoff,rfl,-,-⟩:=kx.get hix;have sx:=kx.atG hix;obtain⟨pb,poff,rfl,-,-⟩:=kp.get (i:=gN NX (gN ON p*W+c)) (by omega);have sp:=kp.atG (i:=gN NX (gN ON p*W+c)) (by omega);obtain⟨s0,_⟩:=FR.out.slotN (i:=4) (by simp) rfl (k:=p) (by omega);obtain⟨s2,s3⟩:=FR.out.slotN (i:=0) (by simp) rfl (k:=p) (by omega);have F3:=qaa ((FR.out.storeN (i:=0) (by simp) rfl p (gN PL (gN NX (gN ON p*W+c)))).below (Below.refl _ _).drew);have HV2:Hid (∀p',p'<p+1→gN (RL.set p (gN PL (gN NX (gN ON p*W+c)))) p'=gN PL ((dfA bs NX OU).nx (gN ON p') c)):=fun p' h3=>by
         rw[qbp (by omega)];by_cases e:p'=p
         ·rw[if_pos e,e]
          show _=gN PL (gN NX (gN ON p*(NX.length/OU.length)+c));rw[HW.out]
         ·rw[if_neg e];exact HV.out p' (by omega)
        clear kx kp h1 h2;generalize gN PL (gN NX (gN ON p*W+c))=v at *;generalize gN NX (gN ON p*W+c)=t at *;generalize gN ON p=s at *;have f1:IntKind.i64.wrap ((s:Int)*(W:Int))=((s*W:Nat):Int):=by rw[show(s:Int)*(W:Int)=((s*W:Nat):Int) by simp];exact qak _ (by omega)
        generalize hmm:s*W=z at *;have f3:IntKind.i64.wrap ((z:Int)+(c:Int))=((z+c:Nat):Int):=by rw[show(z:Int)+(c:Int)=((z+c:Nat):Int) by simp];exact qak _ (by omega)
        have hln:(z:Int)+(c:Int)<(NX.length:Int):=by omega
        have hlz:(0:Int)≤(z:Int)+(c:Int):=by omega
        have hlt:((z:Int)+(c:Int)).toNat=z+c:=by omega
        have ht':(t:Int)<(OU.length:Int):=by omega
        clear hmm;go_wp2;go_region
        all_goals
         go_wp2;go_roundg (m-(p+1)+1)
         case measure=>have:=HG2.out;omega
         case rel=>exact⟨p+1,_,by first|rfl|go_num|(congr 1;omega),by omega,F3,by rw[List.length_set];exact hRL,HV2,by omega⟩
       ·as_aux_lemma=>
        obtain rfl:p=m:=by omega
        have hp':¬(p:Int)<(p:Int):=by omega
        have HRW:Hid (RL=qdh (dfA bs NX OU) (gN PL) (gN ON) p c):=qnt hRL HV.out;have HPL:Hid (Calls Tryz.prog 84 #[.slice ra R.length rc,.slice (some ⟨gr,0,none⟩) p p] wr fun e w'=>(∃q:Nat,e=.returned (.int .i64 (q:Nat))∧q≤R.length∧(∀j,j<q→R.getD j []≠RL)∧(q<R.length→R.getD q []=RL))∧∃n,w'=wr.drewN n):=by
         have hN:∀n,NAt (wr.drewN n) (some ⟨gr,0,none⟩) RL:=fun n=>by
          obtain⟨a,c,e,h⟩:=(FR.out.drew n).nat (i:=0) (by simp) rfl;simp only[Value.slice.injEq] at e;rw[e.1];exact h
         have:=ql5 ra (some ⟨gr,0,none⟩) rc p R RL wr (by omega) (by omega) (fun i hi=>by
          have h1:=(I.out.2 i hi).1;have eR:R.getD i []=R[i]:=by simp[List.getD_eq_getElem?_getD,hi]
          rw[eR] at h1;omega) (fun n=>I.out.at (Q:=[(.slice (some ⟨gr,0,none⟩) p p,3,qab RL),(.slice (some ⟨go,0,none⟩) 256 256,3,qab OF),(.slice (some ⟨gc,0,none⟩) 256 256,3,qab CO),(.slice ra R.length rc,22,sC G p),(.slice (some ⟨g1,0,none⟩) p p,3,qab ON)]) (k:=3) (FR.out.drew n) (by simp) rfl) hN
         rw[hRL] at this;exact this
        go_upto_region 21 with(go_at_call 84;refine HPL.out.mono ?_;rintro e wz ⟨⟨q,rfl,hq1,hq2,hq3⟩,nz,hwz⟩;have FZ0:Hid (Fr w3 _ wz):=(by rw[hwz];exact FR.out.drew nz);clear hwz)
        have hq4:q≤256:=by omega
        clear HPL HV FR;by_cases hqR:q=R.length
        ·subst hqR
         have hne:=hq2;rw[HRW.out] at hne;have S2:=qaa (HNEW.out hq0 hne);have IR:=qaa (I.out.add (g:=gr) hRL);have EG:=qaa I.out.1;rw[←HRW.out] at S2;clear hq2 hq3 hne HSAM HNEW;have P1:Hid ((wz.alloc (.cells #[(.slice (some ⟨gr,0,none⟩) p p)] 22)).ownsRow w3.heap.size 22 1 (.slice ra R.length rc) R.length (sC G p)):=by
          have ho:=FZ0.out.own (i:=3) (by simp) rfl;rw[qf6,EG.out] at ho;exact own_below ho (al (Below.refl _ _) _)
         have P2:Hid (∀(j:Nat) (u:Value),[(.slice (some ⟨gr,0,none⟩) p p)][j]? =some u→(wz.alloc (.cells #[(.slice (some ⟨gr,0,none⟩) p p)] 22)).cell? ((⟨wz.heap.size,0,none⟩:Addr).add j)=some u):=fun j u hu=>by
          have hB:=heap_alloc_new wz (.cells #[(.slice (some ⟨gr,0,none⟩) p p)] 22);rw[addr_add,cell_of_row _ _ _ _ _ _ hB];simpa using hu
         have P3:Hid (w3.heap.size≤(wz.alloc (.cells #[(.slice (some ⟨gr,0,none⟩) p p)] 22)).heap.size):=Nat.le_trans FZ0.out.bel.size (al (Below.refl wz.heap.size wz) (.cells #[(.slice (some ⟨gr,0,none⟩) p p)] 22)).size;have HPU:Hid (∀v' w6,w6.ownsRow w3.heap.size 22 1 v' (R.length+1) (sC G p++[(.slice (some ⟨gr,0,none⟩) p p)])→qbb (wz.alloc (.cells #[(.slice (some ⟨gr,0,none⟩) p p)] 22)) w6 (.slice ra R.length rc) v'→Fr w3 ((.slice (some ⟨go,0,none⟩) 256 256,3,qab OF)::(.slice (some ⟨gc,0,none⟩) 256 256,3,qab CO)::(v',22,sC (G++[gr]) p)::(.slice (some ⟨g1,0,none⟩) p p,3,qab ON)::(.slice (some ⟨gr,0,none⟩) p p,3,qab RL)::RR) w6):=fun v' w6 k1 k2=>by
          rw[qns];exact Fr.rot5 (FZ0.out.app (al (Below.refl _ _) _) (i:=3) (by simp) rfl (by rw[qf6,EG.out];exact k1) k2)
         have hqi:((R.length:Int)==(R.length:Int))=true:=by simp
         go_upto_region 23 with(at_builtin;refine qac rfl (.tmp 99) (.tmp 101) 34 rfl w3.heap.size 22 i22 (.slice none 0 0) 1 24 Tryz.underlying34 hi22 hz220 hz221 hz222 rfl (by decide) _ R.length _ rfl P1.out ⟨wz.heap.size,0,none⟩ 1 1 [(.slice (some ⟨gr,0,none⟩) p p)] rfl rfl P2.out (by simp[Value.oneCell']) (by decide) (by unfold maxLen;omega) (by omega) P3.out ?_;intro v6 w6 k1 k2;have FZ:=qaa (HPU.out v6 w6 k1 k2);clear k1 k2)
         clear P1 P2 P3 HPU FZ0;obtain⟨wz,rfl⟩:∃wz,wz=w6:=⟨_,rfl⟩;obtain⟨s0,s1⟩:=FZ.out.slotN (i:=0) (by simp) rfl (k:=c) (by omega);have FY:=qaa (FZ.out.storeN (i:=0) (by simp) rfl c (R.length+1));have ec:(((R.length+1:Nat):Int))=(R.length:Int)+1:=by simp
         rw[ec] at FY;have f1:IntKind.i64.wrap ((R.length:Int)+1)=(R.length:Int)+1:=by rw[←ec];exact qak _ (by omega)
         go_upto_region 24 with fail
         obtain⟨wy,hwy⟩:∃wy,wy=wz.setCell ⟨go,c,none⟩ (.int .i64 ((R.length:Int)+1)):=⟨_,rfl⟩;rw[←hwy] at FY ⊢;clear hwy s0 s1 FZ;obtain⟨s0,_⟩:=FY.out.slotN (i:=0) (by simp) rfl (k:=c) (by rw[List.length_set];omega);rw[qbp (by omega),if_pos rfl,ec] at s0;obtain⟨s2,s3⟩:=FY.out.slotN (i:=1) (by simp) rfl (k:=b) (by omega);have FX:=qaa (FY.out.storeN (i:=1) (by simp) rfl b R.length);have f3:IntKind.i64.wrap ((R.length:Int)+1-1)=(R.length:Int):=by rw[show(R.length:Int)+1-1=(R.length:Int) by omega];exact qak _ (by omega)
         go_wp2;go_roundg (256-(b+1)+1)
         case measure=>have:=HG.out;omega
         case rel=>exact⟨b+1,_,_,_,_,_,_,by first|rfl|go_num|(congr 1;omega),by omega,FX,S2,IR,by omega⟩
        ·have hqi:((q:Int)==(R.length:Int))=false:=by simp;omega
         have hqi2:¬(q:Int)=(R.length:Int):=by omega
         have heR:=hq3 (by omega);rw[HRW.out] at heR;have S2:=qaa (HSAM.out q hq0 (by omega) heR);have IR:=qaa (I.out.more (.slice (some ⟨gr,0,none⟩) p p,3,qab RL));have FZ:=qaa FZ0.out.rot5;clear hq2 hq3 heR HSAM HNEW FZ0;go_upto_region 23 with fail
         obtain⟨s0,s1⟩:=FZ.out.slotN (i:=0) (by simp) rfl (k:=c) (by omega);have FY:=qaa (FZ.out.storeN (i:=0) (by simp) rfl c (q+1));have ec:(((q+1:Nat):Int))=(q:Int)+1:=by simp
         rw[ec] at FY;have f1:IntKind.i64.wrap ((q:Int)+1)=(q:Int)+1:=by rw[←ec];exact qak _ (by omega)
         go_upto_region 24 with fail
         obtain⟨wy,hwy⟩:∃wy,wy=wz.setCell ⟨go,c,none⟩ (.int .i64 ((q:Int)+1)):=⟨_,rfl⟩;rw[←hwy] at FY ⊢;clear hwy s0 s1 FZ;obtain⟨s0,_⟩:=FY.out.slotN (i:=0) (by simp) rfl (k:=c) (by rw[List.length_set];omega);rw[qbp (by omega),if_pos rfl,ec] at s0;obtain⟨s2,s3⟩:=FY.out.slotN (i:=1) (by simp) rfl (k:=b) (by omega);have FX:=qaa (FY.out.storeN (i:=1) (by simp) rfl b q);have f3:IntKind.i64.wrap ((q:Int)+1-1)=(q:Int):=by rw[show(q:Int)+1-1=(q:Int) by omega];exact qak _ (by omega)
         go_wp2;go_roundg (256-(b+1)+1)
         case measure=>have:=HG.out;omega
         case rel=>exact⟨b+1,R,G,_,_,F,_,by first|rfl|go_num|(congr 1;omega),by omega,FX,S2,IR,by omega⟩
     ·obtain⟨hq4,hq5⟩:=HOLD.out hq0
      have S2:=qaa hq5;have F2:=qaa (FR.out.storeN (i:=1) (by simp) rfl b (gN OF c-1));clear HOLD HSAM HNEW hq5;generalize gN OF c=q at *;have hq1:((q:Int)==0)=false:=by simp;omega
      have hq2:¬(q:Int)=0:=by omega
      have ec:(((q-1:Nat):Int))=(q:Int)-1:=by omega
      rw[ec] at F2;have f1:IntKind.i64.wrap ((q:Int)-1)=(q:Int)-1:=by rw[←ec];exact qak _ (by omega)
      go_wp2;go_roundg (256-(b+1)+1)
      case measure=>have:=HG.out;omega
      case rel=>exact⟨b+1,R,G,OF,_,F,RR,by first|rfl|go_num|(congr 1;omega),by omega,F2,S2,I,by omega⟩
    ·as_aux_lemma=>
     obtain rfl:b=256:=by omega
     have HQ:Hid (QuS (dfA bs NX OU) l (gN PL) (gN ON) m R (gN CO) (gN F)):=⟨HR.out,hm0,HD.out.lt,HEQ.out,HD.out.z,HON.out,S.out.nf,S.out.row⟩;have hFl:=S.out.fl;obtain⟨wb2,rfl⟩:∃wb2,wb2=wr:=⟨_,rfl⟩;have h0n:0<PL.length:=by have:=HR.out.n 0 HR.out.z;have:0<OU.length:=this;omega
     have h0n':(0:Int)<(OU.length:Int):=by omega
     obtain⟨_,_,_,_,_,kp⟩:=HC.out wb2 (HF3.out _ _ FR.out);obtain⟨pb,poff,rfl,-,-⟩:=kp.get (i:=0) h0n;clear kp;have HSP:Hid (∀V R,Fr w3 R V→V.cell? ⟨pb,poff,none⟩=some (.int .i64 0)):=fun V R F=>by
      have:=(HC.out V (HF3.out _ _ F)).2.2.2.2.2.atG (i:=0) h0n;rw[HD.out.z] at this;exact this
     have sp:=HSP.out _ _ FR.out;have F1:=qaa (Fr.front (FR.out.cons (e:=3) (L:=qab [0]) (al (Below.refl wb2.heap.size wb2) (.cells #[.int .i64 0] 3)) (qgo wb2 w3.heap.size 0 FR.out.bel.size) (fun b hb=>by have e:wb2.heap.size=b:=Option.some.inj hb;omega)));go_upto_region 26 with fail
     obtain⟨w8,hw8⟩:∃w8,w8=wb2.alloc (.cells #[.int .i64 0] 3):=⟨_,rfl⟩;obtain⟨v0,hv0⟩:∃v0:Value,v0=.slice (some ⟨wb2.heap.size,0,none⟩) 1 1:=⟨_,rfl⟩;rw[←hw8,←hv0] at F1 ⊢;clear hw8 hv0 FR sp HG S;go_upto_region 27 with(at_make;refine wpList_make_full _ rfl (.tmp 120) (.tmp 120) 22 rfl w3.heap.size 3 i3 (.int .i64 0) 1 Tryz.underlying22 hi3 hz30 hz31 .i64 .i64 _ _ m rfl rfl rfl rfl (by rw[hz32];omega) (by unfold maxLen;omega) F1.out.bel.size ?_;intro w9 m1 m2;have F2:=qaa (F1.out.mkN m1 m2);clear m1 m2)
     obtain⟨gm,hgm⟩:∃gm,gm=w8.heap.size:=⟨_,rfl⟩;rw[←hgm] at F2 ⊢;clear hgm F1;have sp:=HSP.out _ _ F2.out;obtain⟨s0,s1⟩:=F2.out.slotN (i:=0) (by simp) rfl (k:=0) (by rw[List.length_replicate];exact hm0);have F3:Hid (Fr w3 ((.slice (some ⟨gm,0,none⟩) m m,3,qab ((List.replicate m 0).set 0 1))::(v0,3,qab [0])::(.slice (some ⟨go,0,none⟩) 256 256,3,qab OF)::(.slice (some ⟨gc,0,none⟩) 256 256,3,qab CO)::(.slice ra R.length rc,22,sC G m)::(.slice (some ⟨g1,0,none⟩) m m,3,qab ON)::RR) (w9.setCell ⟨gm,0,none⟩ (.int .i64 1))):=F2.out.storeN (i:=0) (by simp) rfl 0 1;have hm0':(0:Int)<(m:Int):=by omega
     go_upto_region 28 with fail
     obtain⟨w10,hw10⟩:∃w10,w10=w9.setCell ⟨gm,0,none⟩ (.int .i64 1):=⟨_,rfl⟩;rw[←hw10] at F3 ⊢;clear hw10 F2 s0 s1 sp;have F4:=qaa (F3.out.box 24 [.string ⟨#[]⟩,.slice none 0 0,.slice none 0 0] (by simp[maxLen]));go_upto_region 29 with fail
     obtain⟨w11,hw11⟩:∃w11,w11=w10.alloc (.cells #[.string ⟨#[]⟩,.slice none 0 0,.slice none 0 0] 24):=⟨_,rfl⟩;obtain⟨gx,hgx⟩:∃gx,gx=w10.heap.size:=⟨_,rfl⟩;rw[←hw11,←hgx] at F4;rw[←hw11,←hgx];clear hw11 hgx F3;have F5:Hid (Fr w3 ((.slice none 0 0,3,qab [])::(.slice none 0 0,3,qab [])::(.slice (some ⟨gx,0,none⟩) 3 3,24,[.string ⟨#[]⟩,.slice none 0 0,.slice none 0 0])::(.slice (some ⟨gm,0,none⟩) m m,3,qab ((List.replicate m 0).set 0 1))::(v0,3,qab [0])::(.slice (some ⟨go,0,none⟩) 256 256,3,qab OF)::(.slice (some ⟨gc,0,none⟩) 256 256,3,qab CO)::(.slice ra R.length rc,22,sC G m)::(.slice (some ⟨g1,0,none⟩) m m,3,qab ON)::RR) w11):=Fr.front ((Fr.front (F4.out.bare 3)).bare 3);have R0:Hid (RcS (quD (dfA bs NX OU) (gN ON) m R (gN CO)) F [0] [] 0 0):=RcS.start HQ.out.ok.n0;have N0:Hid (NoS [0] ((List.replicate m 0).set 0 1) m):=NoS.start hm0;clear F4;go_wp2;go_loopg [20,23] (m+1) (fun g x y wr=>∃(i:Nat) (St X O NM:List Nat) (xv ov:Value),y=.int .i64 (i:Nat)∧i≤St.length∧Hid (Fr w3 ((xv,3,qab X)::(ov,3,qab O)::(.slice (some ⟨gx,0,none⟩) 3 3,24,[.string ⟨#[]⟩,xv,ov])::(.slice (some ⟨gm,0,none⟩) m m,3,qab NM)::(x,3,qab St)::(.slice (some ⟨go,0,none⟩) 256 256,3,qab OF)::(.slice (some ⟨gc,0,none⟩) 256 256,3,qab CO)::(.slice ra R.length rc,22,sC G m)::(.slice (some ⟨g1,0,none⟩) m m,3,qab ON)::RR) wr)∧Hid (RcS (quD (dfA bs NX OU) (gN ON) m R (gN CO)) F St X i 0)∧Hid (NoS St NM m)∧Hid (O=(St.take i).map fun p=>gN OU (gN ON p))∧m-i<g)
     case atStart=>exact⟨0,[0],[],[],_,_,_,rfl,by simp,F5,R0,N0,rfl,by omega⟩
     case round=>
      clear F5 R0 N0;obtain⟨i,St,X,O,NM,xv,ov,rfl,hi1,FR,RC,NS,HO,hg⟩:=hrel;have HG:=qaa hg;clear hg;have hSt:St.length≤m:=qax m St.length (gN St) RC.out.lt RC.out.nd;by_cases hi:i<St.length
      ·obtain⟨sa,sc,hv⟩:=FR.out.shape (i:=4) (by simp) rfl
       rw[qaf] at hv;subst hv;have hi':(i:Int)<(St.length:Int):=by omega
       go_wp2;go_loopg [20,24] (R.length+1) (fun g x y wr=>∃(j:Nat) (St X NM:List Nat) (xv:Value),y=.int .i64 (j:Nat)∧j≤R.length∧Hid (Fr w3 ((xv,3,qab X)::(ov,3,qab O)::(.slice (some ⟨gx,0,none⟩) 3 3,24,[.string ⟨#[]⟩,xv,ov])::(.slice (some ⟨gm,0,none⟩) m m,3,qab NM)::(x,3,qab St)::(.slice (some ⟨go,0,none⟩) 256 256,3,qab OF)::(.slice (some ⟨gc,0,none⟩) 256 256,3,qab CO)::(.slice ra R.length rc,22,sC G m)::(.slice (some ⟨g1,0,none⟩) m m,3,qab ON)::RR) wr)∧Hid (RcS (quD (dfA bs NX OU) (gN ON) m R (gN CO)) F St X i j)∧Hid (NoS St NM m)∧Hid (O=(St.take i).map fun p=>gN OU (gN ON p))∧i<St.length∧R.length-j<g)
       case atStart=>exact⟨0,St,X,NM,xv,rfl,by omega,FR,RC,NS,HO,hi,by omega⟩
       case round=>
        clear FR RC NS HO hi hi' hi1 hSt;obtain⟨j,St,X,NM,xv,rfl,hj1,FR,RC,NS,HO,hi,hg⟩:=hrel;have HG2:=qaa hg;clear hg;have hSt:St.length≤m:=qax m St.length (gN St) RC.out.lt RC.out.nd;have hi':(i:Int)<(St.length:Int):=by omega
        obtain⟨sa,sc,hv⟩:=FR.out.shape (i:=4) (by simp) rfl;rw[qaf] at hv;subst hv;have hXl:X.length≤65536:=by
         have h1:=RC.out.len;have h2:i*F.length≤255*256:=Nat.mul_le_mul (by omega) (by omega);omega
        by_cases hj:j<R.length
        ·have hj':(j:Int)<(R.length:Int):=by omega
         have hFj:j<F.length:=by omega
         have kro:=I.out.at (Q:=[(xv,3,qab X),(ov,3,qab O),(.slice (some ⟨gx,0,none⟩) 3 3,24,[.string ⟨#[]⟩,xv,ov]),(.slice (some ⟨gm,0,none⟩) m m,3,qab NM),(.slice sa St.length sc,3,qab St),(.slice (some ⟨go,0,none⟩) 256 256,3,qab OF),(.slice (some ⟨gc,0,none⟩) 256 256,3,qab CO),(.slice ra R.length rc,22,sC G m),(.slice (some ⟨g1,0,none⟩) m m,3,qab ON)]) (k:=7) FR.out (by simp) rfl;obtain⟨rb,roff,a,cap,e,sr,ka⟩:=kro.get hj;subst e;have eR:R.getD j []=R[j]:=by simp[List.getD_eq_getElem?_getD,hj]
         have hRl:=(I.out.2 j hj).1;rw[eR] at hRl;rw[hRl] at sr;have hsm:gN St i<m:=RC.out.lt i hi;obtain⟨ab,aoff,rfl,-,-⟩:=ka.get (i:=gN St i) (by omega);have sa':=ka.atG (i:=gN St i) (by omega);obtain⟨sg,e,-,-⟩:=FR.out.cell (i:=4) (by simp) rfl (k:=i) (by rw[qaf];exact hi);subst e;obtain⟨so,-⟩:=FR.out.slotN (i:=4) (by simp) rfl (k:=i) hi;have hstep:gN R[j] (gN St i)=(quD (dfA bs NX OU) (gN ON) m R (gN CO)).step (gN St i) (gN F j):=by
          show _=gN (R.getD (gN CO (gN F j)) []) (gN St i);rw[HQ.out.nf.numfst j hj,eR]
         have hto:gN R[j] (gN St i)<m:=by
          rw[hstep];exact HQ.out.ok.step hsm (HQ.out.nf.fstlt j hj)
         have HST:=qaa hstep;clear kro ka eR hstep;generalize gN R[j] (gN St i)=q at *;obtain⟨si,hsi⟩:∃si,Hid (si=gN St i):=⟨_,rfl⟩;rw[←hsi.out] at so sa' hsm;have hsm':(si:Int)<(m:Int):=by omega
         have hq':(q:Int)<(m:Int):=by omega
         go_wp2;go_quiet (fail);obtain⟨wq,hwq⟩:∃wq,wq=wr.drewN nq:=⟨_,rfl⟩;have FQ:=qaa (FR.out.drew nq);rw[←hwq] at FQ ⊢;clear hwq sr sa' so FR;obtain⟨s0,s1⟩:=FQ.out.slotN (i:=3) (by simp) rfl (k:=q) (by rw[NS.out.len];exact hto);go_upto_if 154 with fail
         go_cut [20] (fun s20 wx=>∃(St' NM':List Nat) (v:Nat),Hid (Fr w3 ((xv,3,qab X)::(ov,3,qab O)::(.slice (some ⟨gx,0,none⟩) 3 3,24,[.string ⟨#[]⟩,xv,ov])::(.slice (some ⟨gm,0,none⟩) m m,3,qab NM')::(s20,3,qab St')::(.slice (some ⟨go,0,none⟩) 256 256,3,qab OF)::(.slice (some ⟨gc,0,none⟩) 256 256,3,qab CO)::(.slice (some ⟨rb,roff,none⟩) R.length rc,22,sC G m)::(.slice (some ⟨g1,0,none⟩) m m,3,qab ON)::RR) wx)∧Hid (RcS (quD (dfA bs NX OU) (gN ON) m R (gN CO)) F St' (X++[v]) i (j+1))∧Hid (NoS St' NM' m)∧Hid (gN NM' q=v+1)∧i<St'.length∧Hid (O=(St'.take i).map fun p=>gN OU (gN ON p)))
         case first=>
          by_cases hz:gN NM q=0
          ·as_aux_lemma=>
           have RC2:Hid (RcS (quD (dfA bs NX OU) (gN ON) m R (gN CO)) F (St++[q]) (X++[St.length]) i (j+1)):=RC.out.new hi hFj hto (fun a ha e=>NS.out.w a ha (by rw[e];exact hz)) HST.out;have NS2:=qaa (NS.out.new hto);have hNl:=NS.out.len;have HO2:Hid (O=((St++[q]).take i).map fun p=>gN OU (gN ON p)):=by
            unfold Hid;rw[List.take_append_of_le_length (by omega)];exact HO.out
           rw[hz] at s0;have s0:wq.cell? ⟨gm,q,none⟩=some (.int .i64 0):=s0;obtain⟨p1,p2,p3⟩:=FQ.out.pre (i:=4) (by simp) rfl (q:Int);have P1:=qaa p1;have P2:=qaa p2;have P3:=qaa p3;have HPU:Hid (∀v' w6,w6.ownsRow w3.heap.size 3 1 v' (St.length+1) (qab St++[.int .i64 (q:Int)])→qbb (wq.alloc (.cells #[.int .i64 (q:Int)] 3)) w6 (.slice (some ⟨sg,0,none⟩) St.length sc) v'→Fr w3 ((xv,3,qab X)::(ov,3,qab O)::(.slice (some ⟨gx,0,none⟩) 3 3,24,[.string ⟨#[]⟩,xv,ov])::(.slice (some ⟨gm,0,none⟩) m m,3,qab NM)::(v',3,qab (St++[q]))::(.slice (some ⟨go,0,none⟩) 256 256,3,qab OF)::(.slice (some ⟨gc,0,none⟩) 256 256,3,qab CO)::(.slice (some ⟨rb,roff,none⟩) R.length rc,22,sC G m)::(.slice (some ⟨g1,0,none⟩) m m,3,qab ON)::RR) w6):=fun v' w6 k1 k2=>FQ.out.push (i:=4) (by simp) rfl k1 k2
           clear p1 p2 p3;go_upto_region 38 with(at_builtin;refine qac rfl (.tmp 155) (.tmp 157) 22 rfl w3.heap.size 3 i3 (.int .i64 0) 1 8 Tryz.underlying22 hi3 hz30 hz31 hz32 rfl (by decide) _ St.length _ rfl P1.out ⟨wq.heap.size,0,none⟩ 1 1 [.int .i64 (q:Int)] rfl rfl P2.out (by simp[Value.oneCell']) (by decide) (by unfold maxLen;omega) (by omega) P3.out ?_;intro v6 w6 k1 k2;have F6:=qaa (HPU.out v6 w6 k1 k2);clear k1 k2)
           clear P1 P2 P3 HPU s0 s1 FQ;obtain⟨ta,tc,hv⟩:=F6.out.shape (i:=4) (by simp) rfl;rw[qaf,List.length_append,List.length_singleton] at hv;subst hv;obtain⟨s0,s1⟩:=F6.out.slotN (i:=3) (by simp) rfl (k:=q) (by omega);have F7:=qaa (F6.out.storeN (i:=3) (by simp) rfl q (St.length+1));have ec:(((St.length+1:Nat):Int))=(St.length:Int)+1:=by simp
           rw[ec] at F7;have HNV:Hid (gN (NM.set q (St.length+1)) q=St.length+1):=by
            unfold Hid;rw[qbp (by omega),if_pos rfl]
           have hi7:i<(St++[q]).length:=by simp;omega
           go_wp2;go_meet;exact⟨St++[q],_,St.length,F7,RC2,NS2,HNV,hi7,HO2⟩
          ·as_aux_lemma=>
           obtain⟨h1,h2⟩:=NS.out.v q hz;have RC2:Hid (RcS (quD (dfA bs NX OU) (gN ON) m R (gN CO)) F St (X++[gN NM q-1]) i (j+1)):=RC.out.old hFj (by omega) (by rw[h2];exact HST.out);have HNV:Hid (gN NM q=gN NM q-1+1):=by
            unfold Hid;omega
           have hz1:((gN NM q:Int)==0)=false:=by simp;omega
           have hz2:¬(gN NM q:Int)=0:=by omega
           clear h2;go_wp2;go_meet;exact⟨St,NM,gN NM q-1,FQ,RC2,NS,HNV,hi,HO⟩
         case rest=>
          clear s0 s1 FQ RC NS HO hi hi' HST hSt;obtain⟨St',NM',v,F6,RC6,NS6,HN6,hi6,HO6⟩:=hcut;rename World=>wx
          have hSt:St'.length≤m:=qax m St'.length (gN St') RC6.out.lt RC6.out.nd;have hv:v<256:=by
           have h1:=NS6.out.v q (by rw[HN6.out];omega);rw[HN6.out] at h1;omega
          obtain⟨n0,-⟩:=F6.out.slotN (i:=3) (by simp) rfl (k:=q) (by rw[NS6.out.len];exact hto);have ec:(((v+1:Nat):Int))=(v:Int)+1:=by simp
          rw[HN6.out,ec] at n0;obtain⟨b1,-⟩:=F6.out.slot (i:=2) (by simp) rfl (k:=1) (by simp);simp only[List.getElem_cons_succ,List.getElem_cons_zero] at b1;have f1:IntKind.i64.wrap ((v:Int)+1-1)=(v:Int):=by rw[show(v:Int)+1-1=(v:Int) by omega];exact qak _ (by omega)
          have f2:IntKind.i64.wrap (v:Int)=(v:Int):=qak _ (by omega);have hgl:gx<wx.heap.size:=(World.ownsRow.lt (F6.out.own (i:=2) (by simp) rfl) gx rfl).2;have hml:gm<wx.heap.size:=(World.ownsRow.lt (F6.out.own (i:=3) (by simp) rfl) gm rfl).2;have n1:¬gx=wx.heap.size:=by omega
          have n2:¬wx.heap.size=gx:=by omega
          have n3:¬gm=wx.heap.size:=by omega
          have n4:¬wx.heap.size=gm:=by omega
          have n5:¬gx=gm:=fun e=>F6.out.rs.ap 2 (by simp) 3 (by simp) (by decide) gx rfl (by rw[e];rfl)
          have n6:¬gm=gx:=fun e=>n5 e.symm
          obtain⟨p1,p2,p3⟩:=F6.out.pre (i:=0) (by simp) rfl (v:Int);have HOW:Hid ((wx.alloc (.cells #[.int .i64 (v:Int)] 3)).drew.ownsRow w3.heap.size 3 1 xv X.length (qab X)):=World.ownsRow.drew p1;have HNW:Hid (∀(j:Nat) (u:Value),([.int .i64 (v:Int)]:List Value)[j]? =some u→(wx.alloc (.cells #[.int .i64 (v:Int)] 3)).drew.cell? ((⟨wx.heap.size,0,none⟩:Addr).add j)=some u):=p2;have HSW:Hid (w3.heap.size≤(wx.alloc (.cells #[.int .i64 (v:Int)] 3)).drew.heap.size):=p3;have HRO:Hid (∀(g6 cap6:Nat) (w6:World),w6.ownsRow w3.heap.size 3 1 (.slice (some ⟨g6,0,none⟩) (X.length+1) cap6) (X.length+1) (qab X++[.int .i64 (v:Int)])→(wx.alloc (.cells #[.int .i64 (v:Int)] 3)).drew.grownBy w6 xv.ownBlock→(xv.ownBlock=some g6∨g6=(wx.alloc (.cells #[.int .i64 (v:Int)] 3)).drew.heap.size)→Fr w3 (((.slice (some ⟨g6,0,none⟩) (X.length+1) cap6),3,qab (X++[v]))::(ov,3,qab O)::(.slice (some ⟨gx,0,none⟩) 3 3,24,[.string ⟨#[]⟩,xv,ov])::(.slice (some ⟨gm,0,none⟩) m m,3,qab NM')::(u20,3,qab St')::(.slice (some ⟨go,0,none⟩) 256 256,3,qab OF)::(.slice (some ⟨gc,0,none⟩) 256 256,3,qab CO)::(.slice (some ⟨rb,roff,none⟩) R.length rc,22,sC G m)::(.slice (some ⟨g1,0,none⟩) m m,3,qab ON)::RR) w6):=fun g6 cap6 w6 h1 h2 h3=>by
           rw[qa1];have:=F6.out.lies (bt (al (Below.refl _ _) _) (Below.refl _ _).drew (Nat.le_refl _)) (i:=0) (by simp) rfl (g6:=g6) (cap6:=cap6) (x:=.int .i64 (v:Int)) (by rw[qaf];exact h1) h2 h3;rw[qaf] at this;exact this
          clear p1 p2 p3;go_upto_region 39 with fail
          go_region_law
           (refine step_append_lies _ (by rfl) (.tmp 165) (.tmp 171) 22 (by rfl) w3.heap.size 3 i3 (.int .i64 0) 1 8 Tryz.underlying22 hi3 hz30 hz31 hz32 rfl (by decide) _ X.length (qab X) (by rfl) HOW.out ⟨wx.heap.size,0,none⟩ 1 1 [.int .i64 (v:Int)] (by rfl) (by rfl) HNW.out (by simp[Value.oneCell']) (by decide) (by unfold maxLen;omega) (by omega) HSW.out _ rfl ?_;intro g6 cap6 w6 h1 h2 h3 h4;have F7:=qaa (HRO.out g6 cap6 w6 h1 h2 h3);obtain⟨z0,z1⟩:=F7.out.slot (i:=2) (by simp) rfl (k:=1) (by simp);simp only[List.getElem_cons_succ,List.getElem_cons_zero] at z0;obtain⟨z2,z3⟩:=F7.out.slotN (i:=3) (by simp) rfl (k:=q) (by rw[NS6.out.len];exact hto);rw[HN6.out,ec] at z2;have F8:Hid (Fr w3 (((.slice (some ⟨g6,0,none⟩) (X.length+1) cap6),3,qab (X++[v]))::(ov,3,qab O)::(.slice (some ⟨gx,0,none⟩) 3 3,24,[.string ⟨#[]⟩,(.slice (some ⟨g6,0,none⟩) (X.length+1) cap6),ov])::(.slice (some ⟨gm,0,none⟩) m m,3,qab NM')::(u20,3,qab St')::(.slice (some ⟨go,0,none⟩) 256 256,3,qab OF)::(.slice (some ⟨gc,0,none⟩) 256 256,3,qab CO)::(.slice (some ⟨rb,roff,none⟩) R.length rc,22,sC G m)::(.slice (some ⟨g1,0,none⟩) m m,3,qab ON)::RR) (w6.setCell ⟨gx,1,none⟩ (.slice (some ⟨g6,0,none⟩) (X.length+1) cap6))):=F7.out.store (i:=2) (by simp) rfl 1 _;clear h1 h2 h3 h4)
          all_goals
           clear z0 z1 z2 z3 F7;have F8d:=qaa (F8.out.below (Below.refl _ _).drew);go_wp2;go_roundg (R.length-(j+1)+1)
           case measure=>have:=HG2.out;omega
           case rel=>exact⟨j+1,St',X++[v],NM',_,by first|rfl|go_num|(congr 1;omega),by omega,by first|exact F8|exact F8d,RC6,NS6,HO6,hi6,by omega⟩
        ·obtain rfl:j=R.length:=by omega
         as_aux_lemma=>
         have hj':¬(R.length:Int)<(R.length:Int):=by omega
         have RC2:Hid (RcS (quD (dfA bs NX OU) (gN ON) m R (gN CO)) F St X (i+1) 0):=by
          have h1:=RC.out;rw[←hFl] at h1;exact h1.row hi
         obtain⟨wx,rfl⟩:∃wx,wx=wr:=⟨_,rfl⟩;have hsm:gN St i<m:=RC.out.lt i hi;obtain⟨h1,-⟩:=HON.out (gN St i) hsm;have hso:gN ON (gN St i)<OU.length:=HR.out.n _ h1;obtain⟨⟨-,-,c2⟩,-,-,ko,-,-⟩:=HC.out wx (HF3.out _ _ FR.out);obtain⟨ob,ooff,rfl,-,-⟩:=ko.get hso;have sou:=ko.atG hso;have hobl:ob<wx.heap.size:=NAt.lt2 ko hso;have hwl:w.heap.size<wx.heap.size:=by have a1:=HS2.out;have a2:=X3.out.size;have a3:=FR.out.bel.size;omega
         obtain⟨sg,e,-,-⟩:=FR.out.cell (i:=4) (by simp) rfl (k:=i) (by rw[qaf];exact hi);subst e;obtain⟨so,-⟩:=FR.out.slotN (i:=4) (by simp) rfl (k:=i) hi;obtain⟨son,-⟩:=FR.out.slotN (i:=8) (by simp) rfl (k:=gN St i) (by omega);obtain⟨b1,-⟩:=FR.out.slot (i:=2) (by simp) rfl (k:=2) (by simp);simp only[List.getElem_cons_succ,List.getElem_cons_zero] at b1;have hOl:O.length≤256:=by rw[HO.out,List.length_map,List.length_take];omega
         have HO2:Hid (O++[gN OU (gN ON (gN St i))]=(St.take (i+1)).map fun p=>gN OU (gN ON p)):=by
          unfold Hid;rw[List.take_succ_eq_append_getElem hi,List.map_append,←HO.out,qah hi];rfl
         have FD:Hid (Fr w3 ((xv,3,qab X)::(ov,3,qab O)::(.slice (some ⟨gx,0,none⟩) 3 3,24,[.string ⟨#[]⟩,xv,ov])::(.slice (some ⟨gm,0,none⟩) m m,3,qab NM)::((.slice (some ⟨sg,0,none⟩) St.length sc),3,qab St)::(.slice (some ⟨go,0,none⟩) 256 256,3,qab OF)::(.slice (some ⟨gc,0,none⟩) 256 256,3,qab CO)::(.slice ra R.length rc,22,sC G m)::(.slice (some ⟨g1,0,none⟩) m m,3,qab ON)::RR) wx.drew):=FR.out.below (Below.refl _ _).drew;obtain⟨S,HSE⟩:∃S:World→Prop,Hid (∀V,S V↔∃ov' O',Fr w3 ((xv,3,qab X)::(ov',3,qab O')::(.slice (some ⟨gx,0,none⟩) 3 3,24,[.string ⟨#[]⟩,xv,ov])::(.slice (some ⟨gm,0,none⟩) m m,3,qab NM)::((.slice (some ⟨sg,0,none⟩) St.length sc),3,qab St)::(.slice (some ⟨go,0,none⟩) 256 256,3,qab OF)::(.slice (some ⟨gc,0,none⟩) 256 256,3,qab CO)::(.slice ra R.length rc,22,sC G m)::(.slice (some ⟨g1,0,none⟩) m m,3,qab ON)::RR) V):=⟨_,fun _=>Iff.rfl⟩;have HRD:Hid (∀V,S V→V.cell? ⟨gx,2,none⟩=some ov∧V.cell? ⟨w.heap.size,2,none⟩=some (.slice (some ⟨ob,ooff,none⟩) OU.length oc)∧V.cell? ⟨sg,i,none⟩=some (.int .i64 (gN St i:Nat))∧V.cell? ⟨g1,gN St i,none⟩=some (.int .i64 (gN ON (gN St i):Nat))∧V.cell? ⟨ob,ooff+gN ON (gN St i),none⟩=some (.int .i64 (gN OU (gN ON (gN St i)):Nat))):=fun V hV=>by
          obtain⟨ov',O',F⟩:=(HSE.out V).1 hV;obtain⟨⟨-,-,k2⟩,-,-,ko',-,-⟩:=HC.out V (HF3.out _ _ F);obtain⟨k3,-⟩:=F.slotN (i:=4) (by simp) rfl (k:=i) hi;obtain⟨k4,-⟩:=F.slotN (i:=8) (by simp) rfl (k:=gN St i) (by omega);obtain⟨k1,-⟩:=F.slot (i:=2) (by simp) rfl (k:=2) (by simp);simp only[List.getElem_cons_succ,List.getElem_cons_zero] at k1;exact⟨k1,k2,k3,k4,ko'.atG hso⟩
         have HS0:Hid (S wx.drew):=(HSE.out _).2 ⟨ov,O,FD.out⟩;have HSA:Hid (∀x,S (wx.drew.alloc (.cells #[x] 3))):=fun x=>(HSE.out _).2 ⟨ov,O,FD.out.below (al (Below.refl _ _) _)⟩
         obtain⟨p1,p2,p3⟩:=FD.out.pre (i:=1) (by simp) rfl ((gN OU (gN ON (gN St i)):Nat):Int);have HOW:=qaa p1;have HNW:=qaa p2;have HSW:=qaa p3;have HRO:Hid (∀(g6 cap6:Nat) (w6:World),w6.ownsRow w3.heap.size 3 1 (.slice (some ⟨g6,0,none⟩) (O.length+1) cap6) (O.length+1) (qab O++[.int .i64 (gN OU (gN ON (gN St i)):Nat)])→(wx.drew.alloc (.cells #[.int .i64 (gN OU (gN ON (gN St i)):Nat)] 3)).grownBy w6 ov.ownBlock→(ov.ownBlock=some g6∨g6=(wx.drew.alloc (.cells #[.int .i64 (gN OU (gN ON (gN St i)):Nat)] 3)).heap.size)→Fr w3 ((xv,3,qab X)::((.slice (some ⟨g6,0,none⟩) (O.length+1) cap6),3,qab (O++[gN OU (gN ON (gN St i))]))::(.slice (some ⟨gx,0,none⟩) 3 3,24,[.string ⟨#[]⟩,xv,ov])::(.slice (some ⟨gm,0,none⟩) m m,3,qab NM)::((.slice (some ⟨sg,0,none⟩) St.length sc),3,qab St)::(.slice (some ⟨go,0,none⟩) 256 256,3,qab OF)::(.slice (some ⟨gc,0,none⟩) 256 256,3,qab CO)::(.slice ra R.length rc,22,sC G m)::(.slice (some ⟨g1,0,none⟩) m m,3,qab ON)::RR) w6):=fun g6 cap6 w6 h1 h2 h3=>by
          rw[qa1];have:=FD.out.lies (al (Below.refl _ _) _) (i:=1) (by simp) rfl (g6:=g6) (cap6:=cap6) (x:=.int .i64 (gN OU (gN ON (gN St i)):Nat)) (by rw[qaf];exact h1) h2 h3;rw[qaf] at this;exact this
         clear p1 p2 p3 ko h1 RC HO sou so son b1 FR FD c2;generalize gN OU (gN ON (gN St i))=u at *;generalize gN ON (gN St i)=t at *;generalize gN St i=s at *;have hs':(s:Int)<(m:Int):=by omega
         have ht':(t:Int)<(OU.length:Int):=by omega
         go_upto_region 40 with fail
         refine qco (S:=S) 16 (by kernel_rfl) ?_;have HDW:Hid (wx.drew.heap.size=wx.heap.size):=rfl;generalize wx.drew=wd at *;refine qaj.tk 0 rfl 174 HS0.out (fun w' hw'=>by obtain⟨q1,q2,q3,q4,q5⟩:=HRD.out w' hw';go_simp;first|done|rfl) ?_
         try simp only[Act.put,List.setIfInBounds_toArray,List.set_cons_zero,List.set_cons_succ]
         refine qaj.tk 1 rfl 175 HS0.out (fun w' hw'=>by obtain⟨q1,q2,q3,q4,q5⟩:=HRD.out w' hw';go_simp;first|done|rfl) ?_
         try simp only[Act.put,List.setIfInBounds_toArray,List.set_cons_zero,List.set_cons_succ]
         refine qaj.tk 2 rfl 176 HS0.out (fun w' hw'=>by obtain⟨q1,q2,q3,q4,q5⟩:=HRD.out w' hw';go_simp;first|done|rfl) ?_
         try simp only[Act.put,List.setIfInBounds_toArray,List.set_cons_zero,List.set_cons_succ]
         refine qaj.tk 3 rfl 177 HS0.out (fun w' hw'=>by obtain⟨q1,q2,q3,q4,q5⟩:=HRD.out w' hw';go_simp;first|done|rfl) ?_
         try simp only[Act.put,List.setIfInBounds_toArray,List.set_cons_zero,List.set_cons_succ]
         refine qaj.tk 4 rfl 178 HS0.out (fun w' hw'=>by obtain⟨q1,q2,q3,q4,q5⟩:=HRD.out w' hw';go_simp;first|done|rfl) ?_
         try simp only[Act.put,List.setIfInBounds_toArray,List.set_cons_zero,List.set_cons_succ]
         refine qaj.tk 5 rfl 179 HS0.out (fun w' hw'=>by obtain⟨q1,q2,q3,q4,q5⟩:=HRD.out w' hw';go_simp;first|done|rfl) ?_
         try simp only[Act.put,List.setIfInBounds_toArray,List.set_cons_zero,List.set_cons_succ]
         refine qaj.tk 6 rfl 180 HS0.out (fun w' hw'=>by obtain⟨q1,q2,q3,q4,q5⟩:=HRD.out w' hw';go_simp;first|done|rfl) ?_
         try simp only[Act.put,List.setIfInBounds_toArray,List.set_cons_zero,List.set_cons_succ]
         refine qaj.tk 7 rfl 181 HS0.out (fun w' hw'=>by obtain⟨q1,q2,q3,q4,q5⟩:=HRD.out w' hw';go_simp;first|done|rfl) ?_
         try simp only[Act.put,List.setIfInBounds_toArray,List.set_cons_zero,List.set_cons_succ]
         refine qaj.tk 8 rfl 182 HS0.out (fun w' hw'=>by obtain⟨q1,q2,q3,q4,q5⟩:=HRD.out w' hw';go_simp;first|done|rfl) ?_
         try simp only[Act.put,List.setIfInBounds_toArray,List.set_cons_zero,List.set_cons_succ]
         refine qaj.tk 9 rfl 183 HS0.out (fun w' hw'=>by obtain⟨q1,q2,q3,q4,q5⟩:=HRD.out w' hw';go_simp;first|done|rfl) ?_
         try simp only[Act.put,List.setIfInBounds_toArray,List.set_cons_zero,List.set_cons_succ]
         refine qaj.tk 10 rfl 184 HS0.out (fun w' hw'=>by obtain⟨q1,q2,q3,q4,q5⟩:=HRD.out w' hw';go_simp;first|done|rfl) ?_
         try simp only[Act.put,List.setIfInBounds_toArray,List.set_cons_zero,List.set_cons_succ]
         refine qaj.tk 11 rfl 185 HS0.out (fun w' hw'=>by obtain⟨q1,q2,q3,q4,q5⟩:=HRD.out w' hw';go_simp;first|done|rfl) ?_
         try simp only[Act.put,List.setIfInBounds_toArray,List.set_cons_zero,List.set_cons_succ]
         refine qaj.tk 12 rfl 186 HS0.out (fun w' hw'=>by obtain⟨q1,q2,q3,q4,q5⟩:=HRD.out w' hw';go_simp;first|done|rfl) ?_
         try simp only[Act.put,List.setIfInBounds_toArray,List.set_cons_zero,List.set_cons_succ]
         refine qaj.step (i:=13) (by kernel_rfl) rfl (fun K hK=>?_);go_simp;refine hK _ _ (HSA.out _) ?_;clear hK K;refine qaj.step (i:=14) (by kernel_rfl) rfl (fun K hK=>?_);refine step_append_lies _ (by rfl) (.tmp 175) (.tmp 187) 22 (by rfl) w3.heap.size 3 i3 (.int .i64 0) 1 8 Tryz.underlying22 hi3 hz30 hz31 hz32 rfl (by decide) _ O.length (qab O) (by rfl) HOW.out ⟨wd.heap.size,0,none⟩ 1 1 [.int .i64 (u:Int)] (by rfl) (by rfl) HNW.out (by simp[Value.oneCell']) (by decide) (by unfold maxLen;omega) (by omega) HSW.out _ rfl ?_;intro g6 cap6 w6 h1 h2 h3 h4;have F7:=qaa (HRO.out g6 cap6 w6 h1 h2 h3);refine hK _ _ ((HSE.out _).2 ⟨_,_,F7.out⟩) ?_;clear hK K h1 h2 h3 h4;have HS6:Hid (S w6):=(HSE.out _).2 ⟨_,_,F7.out⟩;refine qaj.tk 15 rfl 189 HS6.out (fun w' hw'=>by obtain⟨q1,q2,q3,q4,q5⟩:=HRD.out w' hw';go_simp;first|done|rfl) ?_
         try simp only[Act.put,List.setIfInBounds_toArray]
         obtain⟨z0,z1⟩:=F7.out.slot (i:=2) (by simp) rfl (k:=2) (by simp);simp only[List.getElem_cons_succ,List.getElem_cons_zero] at z0;have F8:Hid (Fr w3 ((xv,3,qab X)::((.slice (some ⟨g6,0,none⟩) (O.length+1) cap6),3,qab (O++[u]))::(.slice (some ⟨gx,0,none⟩) 3 3,24,[.string ⟨#[]⟩,xv,(.slice (some ⟨g6,0,none⟩) (O.length+1) cap6)])::(.slice (some ⟨gm,0,none⟩) m m,3,qab NM)::((.slice (some ⟨sg,0,none⟩) St.length sc),3,qab St)::(.slice (some ⟨go,0,none⟩) 256 256,3,qab OF)::(.slice (some ⟨gc,0,none⟩) 256 256,3,qab CO)::(.slice ra R.length rc,22,sC G m)::(.slice (some ⟨g1,0,none⟩) m m,3,qab ON)::RR) (w6.setCell ⟨gx,2,none⟩ (.slice (some ⟨g6,0,none⟩) (O.length+1) cap6))):=F7.out.store (i:=2) (by simp) rfl 2 _;refine qaj.last (by kernel_rfl) rfl (by kernel_rfl) (by kernel_rfl) (fun K hK=>?_);go_simp;refine hK _ _ ?_;clear hK K z0 z1 F7 HOW HNW HSW HRO HSA HS0 HRD HSE;go_wp2;go_roundg (m-(i+1)+1)
         case measure=>have:=HG.out;omega
         case rel=>exact⟨i+1,St,X,O++[u],NM,_,_,by first|rfl|go_num|(congr 1;omega),by omega,F8,RC2,NS,HO2,by omega⟩
      ·as_aux_lemma=>
       obtain rfl:i=St.length:=by omega
       obtain⟨sa,sc,hv⟩:=FR.out.shape (i:=4) (by simp) rfl;rw[qaf] at hv;subst hv;have hi':¬(St.length:Int)<(St.length:Int):=by omega
       have HOO:Hid (O=St.map fun p=>gN OU (gN ON p)):=by
        have:=HO.out;rw[List.take_length] at this;exact this
       have HDN:=qaa (qke HM.out hm HQ.out hFl hfew hCOl RC.out HOO.out);have HCB:Hid (∀b,b<256→gN CO b<256):=fun b hb=>by
        have:=HQ.out.nf.numlt b hb;omega
       have F0:Hid (Fr w3 ((.slice none 0 0,5,qar (CO.take 0))::(xv,3,qab X)::(ov,3,qab O)::(.slice (some ⟨gx,0,none⟩) 3 3,24,[.string ⟨#[]⟩,xv,ov])::(.slice (some ⟨gm,0,none⟩) m m,3,qab NM)::(.slice sa St.length sc,3,qab St)::(.slice (some ⟨go,0,none⟩) 256 256,3,qab OF)::(.slice (some ⟨gc,0,none⟩) 256 256,3,qab CO)::(.slice ra R.length rc,22,sC G m)::(.slice (some ⟨g1,0,none⟩) m m,3,qab ON)::RR) wr):=Fr.front (FR.out.bare 5);clear FR RC NS HO HOO hi hi1;go_wp2;go_loopg [26,27] 257 (fun g x y wr=>∃(b:Nat),y=.int .i64 (b:Nat)∧b≤256∧Hid (Fr w3 ((x,5,qar (CO.take b))::(xv,3,qab X)::(ov,3,qab O)::(.slice (some ⟨gx,0,none⟩) 3 3,24,[.string ⟨#[]⟩,xv,ov])::(.slice (some ⟨gm,0,none⟩) m m,3,qab NM)::(.slice sa St.length sc,3,qab St)::(.slice (some ⟨go,0,none⟩) 256 256,3,qab OF)::(.slice (some ⟨gc,0,none⟩) 256 256,3,qab CO)::(.slice ra R.length rc,22,sC G m)::(.slice (some ⟨g1,0,none⟩) m m,3,qab ON)::RR) wr)∧256-b<g)
       case atStart=>exact⟨0,rfl,by omega,F0,by omega⟩
       case round=>
        clear F0;obtain⟨b,rfl,hb1,FB,hg⟩:=hrel;have HG3:=qaa hg;clear hg;obtain⟨wx,rfl⟩:∃wx,wx=wr:=⟨_,rfl⟩;have hul:(qar (CO.take b)).length=b:=by rw[qbh,List.length_take];omega
        obtain⟨ua,uc,hv⟩:=FB.out.shape (i:=0) (by simp) rfl;rw[hul] at hv;subst hv;by_cases hb:b<256
        ·as_aux_lemma=>
         have hb':(b:Int)<256:=by omega
         obtain⟨sb,-⟩:=FB.out.slotN (i:=7) (by simp) rfl (k:=b) (by omega);have hc:=HCB.out b hb;have f1:IntKind.u8.wrap ((gN CO b:Nat):Int)=((gN CO b:Nat):Int):=by simp[IntKind.wrap,IntKind.bits,IntKind.signed];omega
         have eS:qar (CO.take b)++[.int .u8 ((gN CO b:Nat):Int)]=qar (CO.take (b+1)):=by
          rw[List.take_succ_eq_append_getElem (l:=CO) (i:=b) (by omega),qah (show b<CO.length by omega)];unfold qar;rw[List.map_append];rfl
         have P1:Hid ((wx.alloc (.cells #[.int .u8 ((gN CO b:Nat):Int)] 5)).ownsRow w3.heap.size 5 1 (.slice ua b uc) b (qar (CO.take b))):=by
          have ho:=FB.out.own (i:=0) (by simp) rfl;rw[hul] at ho;exact own_below ho (al (Below.refl _ _) _)
         have P2:Hid (∀(j:Nat) (u:Value),[(.int .u8 ((gN CO b:Nat):Int))][j]? =some u→(wx.alloc (.cells #[.int .u8 ((gN CO b:Nat):Int)] 5)).cell? ((⟨wx.heap.size,0,none⟩:Addr).add j)=some u):=fun j u hu=>by
          have hB:=heap_alloc_new wx (.cells #[.int .u8 ((gN CO b:Nat):Int)] 5);rw[addr_add,cell_of_row _ _ _ _ _ _ hB];simpa using hu
         have P3:Hid (w3.heap.size≤(wx.alloc (.cells #[.int .u8 ((gN CO b:Nat):Int)] 5)).heap.size):=Nat.le_trans FB.out.bel.size (al (Below.refl wx.heap.size wx) (.cells #[.int .u8 ((gN CO b:Nat):Int)] 5)).size;have HPU:Hid (∀v' w6,w6.ownsRow w3.heap.size 5 1 v' (b+1) (qar (CO.take b)++[.int .u8 ((gN CO b:Nat):Int)])→qbb (wx.alloc (.cells #[.int .u8 ((gN CO b:Nat):Int)] 5)) w6 (.slice ua b uc) v'→Fr w3 ((v',5,qar (CO.take (b+1)))::(xv,3,qab X)::(ov,3,qab O)::(.slice (some ⟨gx,0,none⟩) 3 3,24,[.string ⟨#[]⟩,xv,ov])::(.slice (some ⟨gm,0,none⟩) m m,3,qab NM)::(.slice sa St.length sc,3,qab St)::(.slice (some ⟨go,0,none⟩) 256 256,3,qab OF)::(.slice (some ⟨gc,0,none⟩) 256 256,3,qab CO)::(.slice ra R.length rc,22,sC G m)::(.slice (some ⟨g1,0,none⟩) m m,3,qab ON)::RR) w6):=fun v' w6 k1 k2=>by
          rw[←eS];exact FB.out.app (al (Below.refl _ _) _) (i:=0) (by simp) rfl (by rw[hul];exact k1) k2
         clear eS hc FB;generalize gN CO b=c at *;go_upto_region 44 with(at_builtin;refine qac rfl (.tmp 194) (.tmp 200) 89 rfl w3.heap.size 5 i5 (.int .u8 0) 1 1 Tryz.underlying89 hi5 hz50 hz51 hz52 rfl (by decide) _ b _ rfl P1.out ⟨wx.heap.size,0,none⟩ 1 1 [(.int .u8 (c:Int))] rfl rfl P2.out (by simp[Value.oneCell']) (by decide) (by unfold maxLen;omega) (by omega) P3.out ?_;intro v6 w6 k1 k2;have FZ:=qaa (HPU.out v6 w6 k1 k2);clear k1 k2)
         clear P1 P2 P3 HPU sb;go_wp2;go_roundg (256-(b+1)+1)
         case measure=>have:=HG3.out;omega
         case rel=>exact⟨b+1,by first|rfl|go_num|(congr 1;omega),by omega,FZ,by omega⟩
        ·as_aux_lemma=>
         obtain rfl:b=256:=by omega
         have hb':¬(256:Int)<256:=by omega
         rw[show CO.take 256=CO by rw[←hCOl,List.take_length]] at FB;have hul2:(qar CO).length=256:=by rw[qbh];exact hCOl
         obtain⟨ug,e,-,-⟩:=FB.out.cell (i:=0) (by simp) rfl (k:=0) (by rw[hul2];decide);subst e;have hcv:(convert 89 9 (.slice (some ⟨ug,0,none⟩) 256 uc)).run Tryz.prog wx=.ok (.string (strOfNums (CO.map fun b:Nat=>(b:Int)))) wx:=by
          refine run_convert_bytes_arg wx 89 5 Tryz.underlying89 Tryz.underlying5 ug 0 256 uc (CO.map fun b:Nat=>(b:Int)) (by simp[hCOl]) (fun i hi=>?_) 9 Tryz.underlying9;rw[Nat.zero_add,(FB.out.slot (i:=0) (by simp) rfl (k:=i) (by omega)).1];simp[qar,List.getD_eq_getElem?_getD,show i<CO.length by omega]
         have HE:Hid (strOfNums (CO.map fun b:Nat=>(b:Int))=⟨(qav CO).toArray⟩):=by
          unfold Hid strOfNums qav;rw[List.map_map];rfl
         rw[HE.out] at hcv;obtain⟨z0,z1⟩:=FB.out.slot (i:=3) (by simp) rfl (k:=0) (by simp);simp only[List.getElem_cons_zero] at z0;have F1:Hid (Fr w3 ((xv,3,qab X)::(ov,3,qab O)::(.slice (some ⟨gx,0,none⟩) 3 3,24,[.string ⟨(qav CO).toArray⟩,xv,ov])::(.slice (some ⟨gm,0,none⟩) m m,3,qab NM)::(.slice sa St.length sc,3,qab St)::(.slice (some ⟨go,0,none⟩) 256 256,3,qab OF)::(.slice (some ⟨gc,0,none⟩) 256 256,3,qab CO)::(.slice ra R.length rc,22,sC G m)::(.slice (some ⟨g1,0,none⟩) m m,3,qab ON)::RR) (wx.setCell ⟨gx,0,none⟩ (.string ⟨(qav CO).toArray⟩))):=Fr.tail (FB.out.store (i:=3) (by simp) rfl 0 _);clear FB HE hul hul2;go_upto_region 47 with fail
         obtain⟨wy,hwy⟩:∃wy,wy=wx.setCell ⟨gx,0,none⟩ (.string ⟨(qav CO).toArray⟩):=⟨_,rfl⟩;rw[←hwy] at F1 ⊢;clear hwy hcv z0 z1;obtain⟨c0,-⟩:=F1.out.slot (i:=2) (by simp) rfl (k:=0) (by simp);obtain⟨c1,-⟩:=F1.out.slot (i:=2) (by simp) rfl (k:=1) (by simp);obtain⟨c2,-⟩:=F1.out.slot (i:=2) (by simp) rfl (k:=2) (by simp);simp only[List.getElem_cons_succ,List.getElem_cons_zero] at c0 c1 c2;obtain⟨xa,xc,ex⟩:=F1.out.shape (i:=0) (by simp) rfl;obtain⟨oa',oc',eo⟩:=F1.out.shape (i:=1) (by simp) rfl;rw[qaf] at ex eo;subst ex eo;have X4:=qaa (HF3.out _ _ F1.out);obtain⟨-,B4,-⟩:=HC.out wy X4.out;have A4:Hid ((#[.string ⟨(qav CO).toArray⟩,.slice xa X.length xc,.slice oa' O.length oc']:Array Value).all (·.oneCell')=true):=by unfold Hid;simp[Value.oneCell']
         have HB4:=qaa B4;have B6:=setRow_heap wy (w.heap.size+1) _ #[.string ⟨(qav CO).toArray⟩,.slice xa X.length xc,.slice oa' O.length oc'] 24 (0,0) B4;have k6:Kept (fun k=>k=w.heap.size+1) wy (wy.setRow (w.heap.size+1) #[.string ⟨(qav CO).toArray⟩,.slice xa X.length xc,.slice oa' O.length oc']):=qas;have x5:=bt HX2.out X4.out (Nat.le_refl _);have X6:=qaa (x5.trans (k6.below x5.size (fun b hb=>by omega)));have hs2:=HS2.out;have hs3:=X3.out.size;have HRW:Hid (Rws (wy.setRow (w.heap.size+1) #[.string ⟨(qav CO).toArray⟩,.slice xa X.length xc,.slice oa' O.length oc']) w.heap.size [(.slice xa X.length xc,X),(.slice oa' O.length oc',O)]):=by
          have r:=F1.out.two.kept k6 (fun j hj b hb e=>by
           have:=(World.ownsRow.lt (show wy.ownsRow w3.heap.size 3 1 _ _ (qab _) from F1.out.two.own j hj) b hb).1;omega)
          exact⟨fun j hj=>(r.own j hj).mono' (by omega),r.ap⟩
         have z0:=cell_of_row _ _ 0 _ _ _ B6;have z1:=cell_of_row _ _ 1 _ _ _ B6;have z2:=cell_of_row _ _ 2 _ _ _ B6;clear B6 k6 B4 x5 F1;go_wp2_with (refine wpList_store_row rfl 24 (.tmp 8) (.tmp 205) rfl (w.heap.size+1) #[.string ⟨(qav CO).toArray⟩,.slice xa X.length xc,.slice oa' O.length oc'] rfl rfl 24 #[.string ⟨#[]⟩,.slice none 0 0,.slice none 0 0] HB4.out HI.out rfl A4.out ?_);refine bodyPost_ret (by simp[results,Tryz.results39,go_sem,z0,z1,z2];try rfl) rfl ?_;exact⟨⟨qav CO,xa,X.length,xc,oa',O.length,oc',rfl,X,O,HRW.out,HDN.out.1,HDN.out.2.1,HDN.out.2.2.1,HDN.out.2.2.2⟩,X6.out⟩
end Go.Proofs.YtdgoilkgplnhfaaGreat

