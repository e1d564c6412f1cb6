/-
  Rows of a call beside two rows of pairs: told apart by types. No condition.
-/
import Derived.Test.YtdgoilkgplnhfaaGreatJ40
import Derived.Test.YtdgoilkgplnhfaaGreatJ37
import Derived.Test.YtdgoilkgplnhfaaGreatJ21
import Derived.Test.YtdgoilkgplnhfaaGreatJ41
import Derived.Test.YtdgoilkgplnhfaaGreatJ23
import Derived.Test.YtdgoilkgplnhfaaGreatJ38
import Derived.Test.YtdgoilkgplnhfaaGreatJ18
import Derived.Test.YtdgoilkgplnhfaaGreatJ19
import Derived.Test.YtdgoilkgplnhfaaGreatJ31
namespace Go.Proofs.YtdgoilkgplnhfaaGreat
open Go.RowKit Go.Lib
theorem qa3.keep {F:Nat→Prop} {w w':World} {base:Nat} {v:Value} {B:List Spn} (h:qa3 w base v B) (hk:Kept F w w') (hF:∀k,F k→∃cs e,w.heap[k]? =some (.cells cs e (0,0))∧e≠48):qa3 w' base v B:=
 qai h hk fun b hb hf=>by
  obtain⟨cs,h1⟩:=qbl h b hb;obtain⟨cs2,e,h2,h3⟩:=hF b hf;rw[h1] at h2;injection h2 with h2
  injection h2 with _ h2
  exact h3 h2.symm
theorem Fr.keep {F:Nat→Prop} {w0 w w':World} {R:List VR} (h:Fr w0 R w) (hk:Kept F w w') (hb:∀k,F k→w0.heap.size≤k) (hF:∀k,F k→∃cs,w.heap[k]? =some (.cells cs 48 (0,0))) (ne:∀r∈R,r.2.1≠48):Fr w0 R w':=
 ⟨⟨fun j hj=>qai (h.rs.own j hj) hk fun b hb2 hf=>by
   obtain⟨cs,h1⟩:=qbl (h.rs.own j hj) b hb2;obtain⟨cs2,h2⟩:=hF b hf;rw[h1] at h2;injection h2 with h2
   injection h2 with _ h2
   exact ne _ (List.getElem_mem hj) h2,h.rs.ap⟩,h.bel.trans (hk.below h.bel.size hb)⟩
structure FrP (w0:World) (R:List VR) (v1:Value) (B1:List Spn) (v2:Value) (B2:List Spn) (w:World):Prop where
 fr:Fr w0 R w
 q1:qa3 w w0.heap.size v1 B1
 q2:qa3 w w0.heap.size v2 B2
 ne:∀r∈R,r.2.1≠48
 ap:∀b,v1.ownBlock=some b→¬v2.ownBlock=some b
section
variable {w0 w w5 w':World} {R:List VR} {v1 v2:Value} {B1 B2:List Spn}
theorem FrP.below (h:FrP w0 R v1 B1 v2 B2 w) (x:Below w.heap.size w w'):FrP w0 R v1 B1 v2 B2 w':=⟨h.fr.below x,own_below h.q1 x,own_below h.q2 x,h.ne,h.ap⟩
theorem FrP.swap (h:FrP w0 R v1 B1 v2 B2 w):FrP w0 R v2 B2 v1 B1 w:=⟨h.fr,h.q2,h.q1,h.ne,fun b h1 h2=>h.ap b h2 h1⟩
theorem qkf {i:Nat} (ne:∀r∈R,r.2.1≠48) (hi:i<R.length) {v v':Value} {e:TypeId} {L L':List Value} (hR:R[i]=(v,e,L)):∀r∈R.set i (v',e,L'),r.2.1≠48:=fun r hr=>by
 rcases List.mem_or_eq_of_mem_set hr with h|h
 ·exact ne r h
 ·have:=ne _ (List.getElem_mem hi)
  rw[hR] at this;rw[h];exact this
theorem qnu {i:Nat} (ne:∀r∈R,r.2.1≠48) (hi:i<R.length) {v:Value} {e:TypeId} {L:List Value} (hR:R[i]=(v,e,L)):e≠48:=by
 have:=ne _ (List.getElem_mem hi);rw[hR] at this;exact this
theorem FrP.store (h:FrP w0 R v1 B1 v2 B2 w) {i:Nat} (hi:i<R.length) {g n cap:Nat} {e:TypeId} {L:List Value} (hR:R[i]=(.slice (some ⟨g,0,none⟩) n cap,e,L)) (k:Nat) (x:Value):FrP w0 (R.set i (.slice (some ⟨g,0,none⟩) n cap,e,L.set k x)) v1 B1 v2 B2 (w.setCell ⟨g,k,none⟩ x):=by
 have ho:=h.fr.own hi hR;have he:=qnu h.ne hi hR;have hn:n=L.length:=by
  rcases ho.2 with⟨e,e2⟩|⟨g',c',cur,e,_⟩
  ·cases e
  ·injection e with _ e2 _
 have hF:∀b,b=g→∃cs e,w.heap[b]? =some (.cells cs e (0,0))∧e≠48:=fun b hb=>by
  subst hb;obtain⟨cs,hc⟩:=qbl ho b rfl;exact⟨cs,e,hc,he⟩
 subst hn;obtain⟨h1,h2⟩:=ho.stored k x;have k1:Kept (fun b=>b=g) w (w.setCell ⟨g,k,none⟩ x):=(qae h2).mono (fun b hb=>by injection hb with hb;exact hb.symm);exact⟨h.fr.store hi hR k x,h.q1.keep k1 hF,h.q2.keep k1 hF,qkf h.ne hi hR,h.ap⟩
theorem FrP.app (h:FrP w0 R v1 B1 v2 B2 w) (x5:Below w.heap.size w w5) {i:Nat} (hi:i<R.length) {v v' x:Value} {e:TypeId} {L:List Value} (hR:R[i]=(v,e,L)) (h1:w'.ownsRow w0.heap.size e 1 v' (L.length+1) (L++[x])) (h2:qbb w5 w' v v'):FrP w0 (R.set i (v',e,L++[x])) v1 B1 v2 B2 w':=by
 have h5:=h.below x5;have he:=qnu h.ne hi hR;have ho:=h5.fr.own hi hR;refine⟨h.fr.app x5 hi hR h1 h2,?_,?_,qkf h.ne hi hR,h.ap⟩
 ·rcases h2 with⟨q,a,b,c⟩|⟨a,b⟩
  ·exact h5.q1.keep (qae c) fun k hk=>by
    obtain⟨cs,hc⟩:=qbl ho k (a.trans hk);exact⟨cs,e,hc,he⟩
  ·exact own_below h5.q1 (qad a)
 ·rcases h2 with⟨q,a,b,c⟩|⟨a,b⟩
  ·exact h5.q2.keep (qae c) fun k hk=>by
    obtain⟨cs,hc⟩:=qbl ho k (a.trans hk);exact⟨cs,e,hc,he⟩
  ·exact own_below h5.q2 (qad a)
theorem FrP.more (h:FrP w0 R v1 B1 v2 B2 w) (x5:Below w.heap.size w w5) {v':Value} {B:List Spn} (h1:qa3 w' w0.heap.size v' B) (h2:qbb w5 w' v2 v'):FrP w0 R v1 B1 v' B w':=by
 have h5:=h.below x5;rcases h2 with⟨q,a,b,c⟩|⟨a,b⟩
 ·have k6:=qae c
  exact⟨h5.fr.keep k6 (fun k hk=>(World.ownsRow.lt h5.q2 k (a.trans hk)).1) (fun k hk=>qbl h5.q2 k (a.trans hk)) h.ne,qai h5.q1 k6 (fun k hk hf=>h.ap k hk (a.trans hf)),h1,h.ne,fun k hk hk2=>h.ap k hk (by rw[a,←b];exact hk2)⟩
 ·have x6:=qad a
  exact⟨h5.fr.below x6,own_below h5.q1 x6,h1,h.ne,fun k hk hk2=>by
   have h3:=(World.ownsRow.lt h5.q1 k hk).2;have h4:=b k hk2;omega⟩
theorem FrP.start (h:Fr w0 R w) (ne:∀r∈R,r.2.1≠48):FrP w0 R (.slice none 0 0) [] (.slice none 0 0) [] w:=⟨h,World.ownsRow_nil _ _ _ _,World.ownsRow_nil _ _ _ _,ne,fun b hb=>by cases hb⟩
theorem FrP.pre (h:FrP w0 R v1 B1 v2 B2 w) (p:Spn):(w.alloc (.cells #[.int .i64 p.1,.int .i64 p.2] 48)).ownsRow w0.heap.size 48 2 v2 B2.length (qam B2)∧(∀(j:Nat) (u:Value),[Value.int .i64 p.1,.int .i64 p.2][j]? =some u→(w.alloc (.cells #[.int .i64 p.1,.int .i64 p.2] 48)).cell? ((⟨w.heap.size,0,none⟩:Addr).add j)=some u)∧w0.heap.size≤(w.alloc (.cells #[.int .i64 p.1,.int .i64 p.2] 48)).heap.size:=by
 have x:=al (Below.refl w.heap.size w) (.cells #[.int .i64 p.1,.int .i64 p.2] 48);refine⟨own_below h.q2 x,fun j u hu=>?_,Nat.le_trans h.fr.bel.size x.size⟩;have B:=heap_alloc_new w (.cells #[.int .i64 p.1,.int .i64 p.2] 48);rw[qbu,Nat.zero_add,cell_of_row _ _ _ _ _ _ B];rw[←hu];simp
theorem FrP.push (h:FrP w0 R v1 B1 v2 B2 w) (p:Spn) {v':Value} (h1:w'.ownsRow w0.heap.size 48 2 v' (B2.length+1) (qam B2++[.int .i64 p.1,.int .i64 p.2])) (h2:qbb (w.alloc (.cells #[.int .i64 p.1,.int .i64 p.2] 48)) w' v2 v'):FrP w0 R v1 B1 v' (B2++[p]) w':=
 h.more (al (Below.refl _ _) _) (by unfold qa3;rw[qdn,List.length_append];exact h1) h2
theorem FrP.lies (h:FrP w0 R v1 B1 v2 B2 w) (x5:Below w.heap.size w w5) {i:Nat} (hi:i<R.length) {v x:Value} {e:TypeId} {L:List Value} {g6 cap6:Nat} (hR:R[i]=(v,e,L)) (h1:w'.ownsRow w0.heap.size e 1 (.slice (some ⟨g6,0,none⟩) (L.length+1) cap6) (L.length+1) (L++[x])) (h2:w5.grownBy w' v.ownBlock) (h3:v.ownBlock=some g6∨g6=w5.heap.size):FrP w0 (R.set i (.slice (some ⟨g6,0,none⟩) (L.length+1) cap6,e,L++[x])) v1 B1 v2 B2 w':=by
 have h5:=h.below x5;have he:=qnu h.ne hi hR;have ho:=h5.fr.own hi hR;have hF:∀k,v.ownBlock=some k→∃cs e,w5.heap[k]? =some (.cells cs e (0,0))∧e≠48:=fun k hk=>by
  obtain⟨cs,hc⟩:=qbl ho k hk;exact⟨cs,e,hc,he⟩
 exact⟨h.fr.lies x5 hi hR h1 h2 h3,h5.q1.keep (qae h2) hF,h5.q2.keep (qae h2) hF,qkf h.ne hi hR,h.ap⟩
theorem FrP.drew (h:FrP w0 R v1 B1 v2 B2 w) (n:Nat):FrP w0 R v1 B1 v2 B2 (w.drewN n):=h.below ⟨rfl,rfl,rfl,Nat.le_refl _,fun _ _=>rfl⟩
theorem FrP.of {R':List VR} (h:FrP w0 R v1 B1 v2 B2 w) (h2:Fr w0 R' w) (ne:∀r∈R',r.2.1≠48):FrP w0 R' v1 B1 v2 B2 w:=⟨h2,h.q1,h.q2,ne,h.ap⟩
theorem FrP.mkN (h:FrP w0 R v1 B1 v2 B2 w) {n:Nat} (m1:w'.ownsRow w0.heap.size 3 1 (.slice (some ⟨w.heap.size,0,none⟩) n n) n (madeCells (Value.int .i64 0).cells (n*1)).toList) (m2:w.grownBy w' none):FrP w0 ((.slice (some ⟨w.heap.size,0,none⟩) n n,3,qab (List.replicate n 0))::R) v1 B1 v2 B2 w':=
 ⟨h.fr.mkN m1 m2,own_below h.q1 (qad m2),own_below h.q2 (qad m2),fun r hr=>by
   rcases List.mem_cons.1 hr with e|hr
   ·rw[e];intro h;cases h
   ·exact h.ne r hr,h.ap⟩
theorem FrP.pair (h:FrP w0 R v1 B1 v2 B2 w) (p:Spn):FrP w0 R v1 B1 (.slice (some ⟨w.heap.size,0,none⟩) 1 1) [p] (w.alloc (.cells #[.int .i64 p.1,.int .i64 p.2] 48)):=by
 have x:=al (Below.refl w.heap.size w) (.cells #[.int .i64 p.1,.int .i64 p.2] 48);refine⟨h.fr.below x,own_below h.q1 x,?_,h.ne,fun b hb hb2=>?_⟩
 ·exact⟨by simp[qam],.inr ⟨w.heap.size,1,#[.int .i64 p.1,.int .i64 p.2],rfl,h.fr.bel.size,heap_alloc_new _ _,Nat.le_refl _,by unfold maxLen;decide,by simp,by simp[qam]⟩⟩
 ·have h3:=(World.ownsRow.lt h.q1 b hb).2
  have e:w.heap.size=b:=Option.some.inj hb2;omega
theorem FrP.shape (h:FrP w0 R v1 B1 v2 B2 w):∃ao cap,v2=.slice ao B2.length cap:=by
 obtain⟨ao,cap,e,_⟩:=qag (show w.ownsRow w0.heap.size 48 2 v2 B2.length (qam B2) from h.q2);exact⟨ao,cap,e⟩
theorem FrP.at2 (h:FrP w0 R v1 B1 v2 B2 w) {i:Nat} (hi:i<B2.length):∃g cap,v2=.slice (some ⟨g,0,none⟩) B2.length cap∧w.cell? ⟨g,i*2,none⟩=some (.int .i64 (gQ B2 i).1)∧w.cell? ⟨g,i*2+1,none⟩=some (.int .i64 (gQ B2 i).2):=by
 obtain⟨ao,cap,e,hp⟩:=qag (show w.ownsRow w0.heap.size 48 2 v2 B2.length (qam B2) from h.q2);obtain⟨g,hg⟩:=hp (by omega);subst hg e;obtain⟨k1,k2,-,-⟩:=qa3.cells h.q2 hi;exact⟨g,cap,rfl,k1,k2⟩
end
theorem Vrs.mono {w:World} {base base':Nat} {R:List VR} (h:Vrs w base R) (hb:base'≤base):Vrs w base' R:=⟨fun j hj=>qbx (h.own j hj) hb,h.ap⟩
def LbP (OU:List Nat) (base:Nat) (e:Ending) (w:World):Prop:=∃(xo:Option Addr) (xc:Nat) (ao:Option Addr) (ac:Nat) (X AT:List Nat),e=.returned (.tuple #[.slice xo X.length xc,.slice ao AT.length ac])∧Vrs w base [(.slice ao AT.length ac,3,qab AT),(.slice xo X.length xc,3,qab X)]∧LbI OU AT.length X AT∧AT.length≤65536∧∀x∈OU,x<AT.length
set_option maxRecDepth 100000 in
set_option maxHeartbeats 4000000 in
theorem qd8 (bs:By) (na oa:Option Addr) (nl nc oc:Nat) (OU:List Nat) (w:World) (hn1:OU.length≤65536) (hlb:∀x∈OU,x≤65535) (hou:NAt w oa OU):
 Calls Tryz.prog 63 #[auV bs na nl nc oa OU.length oc] w fun e w'=>LbP OU w.heap.size e w'∧Below w.heap.size w w':=by
 obtain⟨i3,hi3,hz30,hz31,hz32⟩:=info_parts Tryz.info3n;obtain⟨w2,hw2⟩:∃w2,w2=w.alloc (.cells #[.string ⟨bs.toArray⟩,.slice na nl nc,.slice oa OU.length oc] 24):=⟨_,rfl⟩;have X2:Below w.heap.size w w2:=by rw[hw2];exact al (Below.refl _ _) _
 have B2:w2.heap[w.heap.size]? =some (.cells #[.string ⟨bs.toArray⟩,.slice na nl nc,.slice oa OU.length oc] 24 (0,0)):=by rw[hw2];exact heap_alloc_new w _
 have HC:Hid (∀V,Below w2.heap.size w2 V→V.cell? ⟨w.heap.size,2,none⟩=some (.slice oa OU.length oc)∧NAt V oa OU):=fun V x=>by
  have Bv:=(x.block _ (lt_of_block B2)).trans B2;have y:=bt X2 x (Nat.le_refl _);exact⟨by rw[cell_of_row _ _ _ _ _ _ Bv];rfl,hou.below y⟩
 have HX2:=qaa X2;have HLB:Hid (∀s,s<OU.length→gN OU s≤65535):=fun s hs=>by rw[qah hs];exact hlb _ (List.getElem_mem hs)
 clear X2 B2 hou hlb;unfold auV;go_enter Tryz.func63,Tryz.ntmps63;go_upto_region 1 with fail
 rw[←hw2];clear hw2;go_wp2;go_loopg [4,5] (OU.length+1) (fun g x y wr=>∃k t:Nat,y=.int .i64 (k:Nat)∧k≤OU.length∧x=.int .i64 (t:Nat)∧t≤65535∧Hid (∀i,i<k→gN OU i≤t)∧Hid (Below w2.heap.size w2 wr)∧OU.length-k<g)
 case atStart=>exact⟨0,0,rfl,by omega,rfl,by omega,fun i hi=>by omega,Below.refl _ _,by omega⟩
 case round=>
  obtain⟨k,t,rfl,hk1,rfl,ht,HT,X,hg⟩:=hrel;have HG:=qaa hg;clear hg;obtain⟨c2,ko⟩:=HC.out wr X.out;by_cases hk:k<OU.length
  ·have hk':(k:Int)<(OU.length:Int):=by omega
   have ho:=HLB.out _ hk;obtain⟨ob,ooff,rfl,_,so⟩:=ko.get hk;rw[←qah hk] at so;have HT2:Hid (∀z,t≤z→gN OU k≤z→∀i,i<k+1→gN OU i≤z):=fun z h1 h2 i hi=>by
    rcases Nat.lt_or_ge i k with h3|h3
    ·have:=HT.out i h3;omega
    ·rw[show i=k by omega];exact h2
   clear ko HT;generalize gN OU k=o at *;by_cases hto:t<o
   ·have h5:(t:Int)<(o:Int):=by omega
    have HTN:=qaa (HT2.out o (by omega) (by omega));go_wp2;go_roundg (OU.length-(k+1)+1)
    case measure=>have:=HG.out;omega
    case rel=>exact⟨k+1,o,by first|rfl|go_num|(congr 1;omega),by omega,by congr 1;omega,ho,HTN,X,by omega⟩
   ·have h5:¬(t:Int)<(o:Int):=by omega
    have HTN:=qaa (HT2.out t (by omega) (by omega));go_wp2;go_roundg (OU.length-(k+1)+1)
    case measure=>have:=HG.out;omega
    case rel=>exact⟨k+1,t,by first|rfl|go_num|(congr 1;omega),by omega,by congr 1;omega,ht,HTN,X,by omega⟩
  ·obtain⟨wb,rfl⟩:∃wb,wb=wr:=⟨_,rfl⟩
   obtain rfl:k=OU.length:=by omega
   have hk':¬(OU.length:Int)<(OU.length:Int):=by omega
   have f1:IntKind.i64.wrap ((t:Int)+1)=((t+1:Nat):Int):=by rw[show(t:Int)+1=((t+1:Nat):Int) by simp];exact qak _ (by omega)
   clear ko;go_upto_region 7 with(at_make;refine wpList_make_full _ rfl (.tmp 25) (.tmp 25) 22 rfl wb.heap.size 3 i3 (.int .i64 0) 1 Tryz.underlying22 hi3 hz30 hz31 .i64 .i64 _ _ (t+1) rfl rfl (by first|rfl|simp) (by first|rfl|simp) (by rw[hz32];omega) (by unfold maxLen;omega) (Nat.le_refl _) ?_;intro w4 m1 m2;have F4:=qaa ((Fr.start wb).madeN m1 m2);clear m1 m2)
   clear c2;obtain⟨gn,hgn⟩:∃gn,gn=wb.heap.size:=⟨_,rfl⟩;rw[←hgn] at F4 ⊢;have HGN:=qaa hgn;clear hgn;have HTT:Hid (∀i,i<OU.length→gN OU i<t+1):=fun i hi=>by have:=HT.out i hi;omega
   have FL0:Hid (FlI OU 0 (List.replicate (t+1) 0)):=FlI.start _;clear HT HG hk' hk hk1;go_wp2;go_loopg [7] (OU.length+1) (fun g y wr=>∃(k:Nat) (AT:List Nat),y=.int .i64 (k:Nat)∧k≤OU.length∧Hid (Fr wb [(.slice (some ⟨gn,0,none⟩) (t+1) (t+1),3,qab AT)] wr)∧Hid (FlI OU k AT)∧AT.length=t+1∧OU.length-k<g)
   case atStart=>exact⟨0,_,rfl,by omega,F4,FL0,by simp,by omega⟩
   case round=>
    clear FL0 F4;obtain⟨k,AT,rfl,hk1,F,S,hAT,hg⟩:=hrel;have HG:=qaa hg;clear hg;obtain⟨c2,ko⟩:=HC.out _ (bt X.out F.out.bel (Nat.le_refl _));by_cases hk:k<OU.length
    ·have hk':(k:Int)<(OU.length:Int):=by omega
     have ho:=HTT.out k hk;obtain⟨ob,ooff,rfl,_,so⟩:=ko.get hk;rw[←qah hk] at so;have S2:=qaa (S.out.step hk (by rw[hAT];exact ho));clear ko S;generalize gN OU k=o at *;have hoi:(o:Int)<(t:Int)+1:=by omega
     have hoi2:(o:Int)<((t+1:Nat):Int):=by omega
     obtain⟨s0,s1⟩:=F.out.slotN (i:=0) (by simp) rfl (k:=o) (by omega);have F2:=qaa (F.out.storeN (i:=0) (by simp) rfl o 1);clear F;go_upto_region 9 with fail
     clear s0 s1 c2 so;generalize wr.setCell ⟨gn,o,none⟩ (.int .i64 1)=wu at *;go_wp2;go_roundg (OU.length-(k+1)+1)
     case measure=>have:=HG.out;omega
     case rel=>exact⟨k+1,_,by first|rfl|go_num|(congr 1;omega),by omega,F2,S2,by rw[List.length_set];exact hAT,by omega⟩
    ·obtain⟨wd,rfl⟩:∃wd,wd=wr:=⟨_,rfl⟩
     obtain rfl:k=OU.length:=by omega
     have hk':¬(OU.length:Int)<(OU.length:Int):=by omega
     have L0:=qaa S.out.done;clear ko HG hk hk1 S;go_wp2;clear c2;have F0:Hid (Fr wb [(.slice (some ⟨gn,0,none⟩) (t+1) (t+1),3,qab AT),(.slice none 0 0,3,qab [])] wd):=F.out.bare 3;clear F;go_loopg [8,9] (t+2) (fun g x y wr=>∃(n:Nat) (X AT:List Nat),y=.int .i64 (n:Nat)∧n≤t+1∧Hid (Fr wb [(.slice (some ⟨gn,0,none⟩) (t+1) (t+1),3,qab AT),(x,3,qab X)] wr)∧Hid (LbI OU n X AT)∧AT.length=t+1∧t+1-n<g)
     case atStart=>exact⟨0,[],AT,rfl,by omega,F0,L0,hAT,by omega⟩
     case round=>
      clear F0 L0 hAT;obtain⟨n,X1,AT1,rfl,hn1,F,S,hAT,hg⟩:=hrel;have HG:=qaa hg;clear hg;have hxl:=S.out.len;by_cases hk:n<t+1
      ·have hk':(n:Int)≤(t:Int):=by omega
       have hni:(n:Int)<((t+1:Nat):Int):=by omega
       have hni2:(n:Int)<(t:Int)+1:=by omega
       obtain⟨s0,s1⟩:=F.out.slotN (i:=0) (by simp) rfl (k:=n) (by omega);have hfl:=S.out.flag (by rw[hAT];exact hk);by_cases hm:n∈OU
       ·rw[hfl.2 hm] at s0
        have S2:=qaa (S.out.step_in (by rw[hAT];exact hk) hm);obtain⟨p1,p2,p3⟩:=F.out.pre (i:=1) (by simp) rfl (n:Int);have P1:=qaa p1;have P2:=qaa p2;have P3:=qaa p3;have HPU:Hid (∀v' w6,w6.ownsRow wb.heap.size 3 1 v' (X1.length+1) (qab X1++[.int .i64 (n:Int)])→qbb (wr.alloc (.cells #[.int .i64 (n:Int)] 3)) w6 u8 v'→Fr wb [(.slice (some ⟨gn,0,none⟩) (t+1) (t+1),3,qab AT1),(v',3,qab (X1++[n]))] w6):=fun v' w6 g1 g2=>F.out.push (i:=1) (by simp) rfl g1 g2
        clear p1 p2 p3 hfl hm S F;go_upto_region 17 with(at_builtin;refine qac rfl (.tmp 51) (.tmp 53) 22 rfl wb.heap.size 3 i3 (.int .i64 0) 1 8 Tryz.underlying22 hi3 hz30 hz31 hz32 rfl (by decide) _ X1.length _ rfl P1.out ⟨wr.heap.size,0,none⟩ 1 1 [.int .i64 (n:Int)] rfl rfl P2.out (by simp[Value.oneCell']) (by decide) (by unfold maxLen;omega) (by omega) P3.out ?_;intro v6 w6 g1 g2;have F6:=qaa (HPU.out v6 w6 g1 g2);clear g1 g2)
        clear s0 s1 P1 P2 P3 HPU;obtain⟨ao6,cap6,e6⟩:=F6.out.shape (i:=1) (by simp) rfl;have hl6:(qab (X1++[n])).length=X1.length+1:=by simp[qab]
        rw[hl6] at e6;subst e6;obtain⟨s0,s1⟩:=F6.out.slotN (i:=0) (by simp) rfl (k:=n) (by omega);have F7:Hid (Fr wb _ (w6.setCell ⟨gn,n,none⟩ (.int .i64 ((X1.length:Int)+1)))):=qaa (F6.out.storeN (i:=0) (by simp) rfl n (X1.length+1));clear F6 hl6;go_upto_region 14 with fail
        clear s0 s1;generalize w6.setCell ⟨gn,n,none⟩ (.int .i64 ((X1.length:Int)+1))=w8 at *;go_wp2;go_roundg (t+1-(n+1)+1)
        case measure=>have:=HG.out;omega
        case rel=>exact⟨n+1,_,_,by first|rfl|go_num|(congr 1;omega),by omega,F7,S2,by rw[List.length_set];exact hAT,by omega⟩
       ·have hq1:¬gN AT1 n=1:=fun h=>hm (hfl.1 h)
        have S2:=qaa (S.out.step_out hm);clear hfl hm S;generalize gN AT1 n=q at *;have hq2:¬(q:Int)=1:=by omega
        have hq3:((q:Int)==1)=false:=beq_eq_false_iff_ne.2 hq2;go_wp2;go_roundg (t+1-(n+1)+1)
        case measure=>have:=HG.out;omega
        case rel=>exact⟨n+1,_,_,by first|rfl|go_num|(congr 1;omega),by omega,F,S2,hAT,by omega⟩
      ·have hn2:n=t+1:=by omega
       subst hn2;have hk':¬((t+1:Nat):Int)≤(t:Int):=by omega
       have hk'':¬(t:Int)+1≤(t:Int):=by omega
       have XF:=qaa (bt HX2.out (bt X.out F.out.bel (Nat.le_refl _)) (Nat.le_refl _));obtain⟨xa,xc,e,hx⟩:=F.out.nat (i:=1) (by simp) rfl;subst e;obtain⟨ga,gc,e2,hg2⟩:=F.out.nat (i:=0) (by simp) rfl;simp only[Value.slice.injEq] at e2;obtain⟨e3,-,e4⟩:=e2;subst e3 e4;have HX:=qaa (F.out.rs.mono (base':=w.heap.size) (bt HX2.out X.out (Nat.le_refl _)).size);rw[←hAT] at HX;clear hx hg2;go_wp2;go_ret2;exact⟨⟨_,_,_,_,X1,AT1,by rw[hAT];rfl,HX.out,by rw[hAT];exact S.out,by omega,fun x hx=>by
        obtain⟨i,hi,rfl⟩:=List.getElem_of_mem hx;have:=HTT.out i hi;rw[qah hi] at this;omega⟩,XF.out⟩
section
variable {w0 w w' w5:World} {base:Nat} {R R':List VR} {v1 v2:Value} {B1 B2:List Spn}
theorem Vrs.join (h:Vrs w base R) (x:Below w.heap.size w w') (k:Vrs w' w.heap.size R') (hb:base≤w.heap.size):Vrs w' base (R'++R):=by
 have h':=h.below x;have hlt:∀m (hm:m<R.length) b,(R[m]).1.ownBlock=some b→b<w.heap.size:=fun m hm b hb=>(World.ownsRow.lt (h.own m hm) b hb).2
 have hge:∀m (hm:m<R'.length) b,(R'[m]).1.ownBlock=some b→w.heap.size≤b:=fun m hm b hb=>(World.ownsRow.lt (k.own m hm) b hb).1
 refine⟨fun j hj=>?_,fun j hj i hi hne b h1 h2=>?_⟩
 ·by_cases hjl:j<R'.length
  ·rw[List.getElem_append_left hjl];exact qbx (k.own j hjl) hb
  ·rw[List.getElem_append_right (by omega)];exact h'.own _ _
 ·rw[List.length_append] at hj hi
  by_cases hjl:j<R'.length
  ·rw[List.getElem_append_left hjl] at h1
   by_cases hil:i<R'.length
   ·rw[List.getElem_append_left hil] at h2;exact k.ap j hjl i hil hne b h1 h2
   ·rw[List.getElem_append_right (by omega)] at h2
    have:=hge j hjl b h1;have:=hlt _ (by omega) b h2;omega
  ·rw[List.getElem_append_right (by omega)] at h1
   by_cases hil:i<R'.length
   ·rw[List.getElem_append_left hil] at h2
    have:=hge i hil b h2;have:=hlt _ (by omega) b h1;omega
   ·rw[List.getElem_append_right (by omega)] at h2
    exact h.ap _ (by omega) _ (by omega) (by omega) b h1 h2
theorem FrP.join (h:FrP w0 R v1 B1 v2 B2 w) (x:Below w.heap.size w w') (k:Vrs w' w.heap.size R') (ne:∀r∈R',r.2.1≠48):FrP w0 (R'++R) v1 B1 v2 B2 w':=
 ⟨⟨h.fr.rs.join x k h.fr.bel.size,h.fr.bel.trans (x.mono h.fr.bel.size)⟩,own_below h.q1 x,own_below h.q2 x,fun r hr=>by
   rcases List.mem_append.1 hr with hr|hr
   ·exact ne r hr
   ·exact h.ne r hr,h.ap⟩
theorem FrP.box (h:FrP w0 R v1 B1 v2 B2 w) (e:TypeId) (cs:List Value) (hl:cs.length≤maxLen) (he:e≠48):FrP w0 ((.slice (some ⟨w.heap.size,0,none⟩) cs.length cs.length,e,cs)::R) v1 B1 v2 B2 (w.alloc (.cells cs.toArray e)):=
 ⟨h.fr.box e cs hl,own_below h.q1 (al (Below.refl _ _) _),own_below h.q2 (al (Below.refl _ _) _),fun r hr=>by
   rcases List.mem_cons.1 hr with e1|hr
   ·rw[e1];exact he
   ·exact h.ne r hr,h.ap⟩
theorem FrP.push2 (h:FrP w0 R v1 B1 v2 B2 w) (x5:Below w.heap.size w w5) (p:Spn) {g6 cap6:Nat} (h1:w'.ownsRow w0.heap.size 48 2 (.slice (some ⟨g6,0,none⟩) (B2.length+1) cap6) (B2.length+1) (qam B2++[.int .i64 p.1,.int .i64 p.2])) (h2:w5.grownBy w' v2.ownBlock) (h3:v2.ownBlock=some g6∨g6=w5.heap.size):FrP w0 R v1 B1 (.slice (some ⟨g6,0,none⟩) (B2++[p]).length cap6) (B2++[p]) w':=by
 have h5:=h.below x5;have k6:=qae h2;refine⟨h5.fr.keep k6 (fun k hk=>(World.ownsRow.lt h5.q2 k hk).1) (fun k hk=>qbl h5.q2 k hk) h.ne,qai h5.q1 k6 h.ap,?_,h.ne,fun k hk hk2=>?_⟩
 ·unfold qa3
  rw[qdn,List.length_append];exact h1
 ·have e6:g6=k:=Option.some.inj hk2
  subst e6;rcases h3 with h3|h3
  ·exact h.ap _ hk h3
  ·have:=(World.ownsRow.lt h5.q1 _ hk).2
   omega
end
theorem ql7 {bs:By} {NZ OZ:List Int} (h:qcr bs NZ OZ):(∀i (h:i<OZ.length),Lab OZ[i])∧∀i (h:i<NZ.length),0≤NZ[i]∧NZ[i]<(OZ.length:Int):=by
 obtain⟨_,_,_,_,h5,h6⟩:=h;refine⟨fun i hi=>?_,fun i hi=>?_⟩
 ·have:=List.any_eq_false.1 h6 _ (List.getElem_mem hi)
  by_cases hl:Lab OZ[i]
  ·exact hl
  ·exact absurd (by unfold nlB;simp[hl]) this
 ·have:=List.any_eq_false.1 h5 _ (List.getElem_mem hi)
  unfold qdg at this;simp at this;omega
theorem qnv {bs:By} {NZ OZ:List Int} (h1:bs.length=256) (h2:¬OZ.length<1) (h3:¬65536<OZ.length) (h4:NZ.length=(mxL (ntL bs)+1)*OZ.length) (h5:∀i (h:i<OZ.length),Lab OZ[i]) (h6:∀i (h:i<NZ.length),0≤NZ[i]∧NZ[i]<(OZ.length:Int)):qcr bs NZ OZ:=by
 refine⟨h1,by omega,by omega,by rw[h4,Nat.mul_comm],List.any_eq_false.2 (fun z hz=>?_),List.any_eq_false.2 (fun z hz=>?_)⟩
 ·obtain⟨i,hi,rfl⟩:=List.getElem_of_mem hz
  have:=h6 i hi;unfold qdg;simp;omega
 ·obtain⟨i,hi,rfl⟩:=List.getElem_of_mem hz
  have:=h5 i hi;unfold nlB;simp[this]
set_option maxRecDepth 100000 in
set_option maxHeartbeats 4000000 in
theorem ql8 (bs:By) (na oa:Option Addr) (nc oc:Nat) (NZ OZ:List Int) (w:World) (hnl:NZ.length≤140737488351232) (hol:OZ.length≤140737488351232) (hnx:ZAt w na NZ) (hou:ZAt w oa OZ):
 Calls Tryz.prog 35 #[auV bs na NZ.length nc oa OZ.length oc] w fun e w'=>qdm (qcr bs NZ OZ) e∧Below w.heap.size w w':=by
 obtain⟨w2,hw2⟩:∃w2,w2=w.alloc (.cells #[.string ⟨bs.toArray⟩,.slice na NZ.length nc,.slice oa OZ.length oc] 24):=⟨_,rfl⟩;have X2:Below w.heap.size w w2:=by rw[hw2];exact al (Below.refl _ _) _
 have B2:w2.heap[w.heap.size]? =some (.cells #[.string ⟨bs.toArray⟩,.slice na NZ.length nc,.slice oa OZ.length oc] 24 (0,0)):=by rw[hw2];exact heap_alloc_new w _
 have HC:Hid (∀V,Below w2.heap.size w2 V→V.cell? ⟨w.heap.size,0,none⟩=some (.string ⟨bs.toArray⟩)∧V.cell? ⟨w.heap.size,1,none⟩=some (.slice na NZ.length nc)∧V.cell? ⟨w.heap.size,2,none⟩=some (.slice oa OZ.length oc)∧ZAt V na NZ∧ZAt V oa OZ):=fun V x=>by
  have Bv:=(x.block _ (lt_of_block B2)).trans B2;have y:=bt X2 x (Nat.le_refl _);exact⟨by rw[cell_of_row _ _ _ _ _ _ Bv];rfl,by rw[cell_of_row _ _ _ _ _ _ Bv];rfl,by rw[cell_of_row _ _ _ _ _ _ Bv];rfl,hnx.below y,hou.below y⟩
 have HX2:=qaa X2;obtain⟨c0,c1,c2,_⟩:=HC.out w2 (Below.refl _ _);clear X2 B2 hnx hou;have NOT:Hid (∀P:Prop,¬P→qdm P (.returned (.bool false))):=fun P h=>⟨false,rfl,by simp[h]⟩
 unfold auV;go_enter Tryz.func35,Tryz.ntmps35;go_upto_region 1 with fail
 rw[←hw2];clear hw2;by_cases h1:bs.length=256
 case neg=>
  have b1:((bs.length:Int)!=256)=true:=by simp;omega
  have HN:Hid (¬qcr bs NZ OZ):=fun h=>h1 h.1
  go_wp2;go_ret;exact⟨NOT.out _ HN.out,HX2.out⟩
 have b1:((bs.length:Int)!=256)=false:=by simp;omega
 by_cases h2:OZ.length<1
 case pos=>
  have b2:((OZ.length:Int)<1):=by omega
  have HN:Hid (¬qcr bs NZ OZ):=fun h=>by have:=h.2.1;omega
  go_wp2;go_ret;exact⟨NOT.out _ HN.out,HX2.out⟩
 have b2:¬((OZ.length:Int)<1):=by omega
 by_cases h3:65536<OZ.length
 case pos=>
  have b3:(65536:Int)<(OZ.length:Int):=by omega
  have HN:Hid (¬qcr bs NZ OZ):=fun h=>by have:=h.2.2.1;omega
  go_wp2;go_ret;exact⟨NOT.out _ HN.out,HX2.out⟩
 have b3:¬(65536:Int)<(OZ.length:Int):=by omega
 have HWD:=qaa (qb0 bs na oa NZ.length nc OZ.length oc w2 h1);unfold auV at HWD;have hml:=qi9 bs;obtain⟨W,hW⟩:∃W,W=mxL (ntL bs)+1:=⟨_,rfl⟩;rw[←hW] at HWD;have hWl:W≤256:=by omega
 have HW:=qaa hW;clear hml hW;go_upto_region 4 with(go_at_call 68;refine HWD.out.mono ?_;rintro e w3 ⟨rfl,x3⟩;have X3:=qaa x3;clear x3)
 clear c0 c1 c2 HWD b1 b2 b3;obtain⟨c0,c1,c2,_⟩:=HC.out w3 X3.out;have hWO:W*OZ.length≤16777216:=Nat.mul_le_mul hWl (show OZ.length≤65536 by omega);have f1:IntKind.i64.wrap ((W:Int)*(OZ.length:Int))=((W*OZ.length:Nat):Int):=by rw[show(W:Int)*(OZ.length:Int)=((W*OZ.length:Nat):Int) by simp];exact qak _ (by omega)
 have XW:=qaa (bt HX2.out X3.out (Nat.le_refl _));by_cases h4:NZ.length=W*OZ.length
 case neg=>
  have HN:Hid (¬qcr bs NZ OZ):=fun h=>h4 (by rw[h.2.2.2.1,Nat.mul_comm,HW.out])
  generalize W*OZ.length=q at *;have b4:((NZ.length:Int)!=(q:Int))=true:=by simp;omega
  go_wp2;go_ret;exact⟨NOT.out _ HN.out,XW.out⟩
 have HIN:Hid ((∀i (h:i<OZ.length),Lab OZ[i])→(∀i (h:i<NZ.length),0≤NZ[i]∧NZ[i]<(OZ.length:Int))→qcr bs NZ OZ):=qnv h1 h2 h3 (by rw[h4,HW.out]);have HOUT:=qaa (fun h=>ql7 (bs:=bs) (NZ:=NZ) (OZ:=OZ) h);have b4:((NZ.length:Int)!=(W:Int)*(OZ.length:Int))=false:=by rw[h4];simp
 have H4:=qaa h4;clear h4;go_upto_region 6 with fail
 clear b4 f1 c0 c1 c2;go_wp2;go_loopg [4] (OZ.length+1) (fun g x wr=>∃k:Nat,x=.int .i64 (k:Nat)∧k≤OZ.length∧Hid (∀i (h:i<OZ.length),i<k→Lab OZ[i])∧Hid (Below w2.heap.size w2 wr)∧OZ.length-k<g)
 case atStart=>exact⟨0,rfl,by omega,fun i _ h=>by omega,X3,by omega⟩
 case round=>
  obtain⟨k,rfl,hk1,HL,X,hg⟩:=hrel;have HG:=qaa hg;have XV:=qaa (bt HX2.out X.out (Nat.le_refl _));clear hg X3 XW;obtain⟨c0,c1,c2,kx,ko⟩:=HC.out wr X.out;by_cases hk:k<OZ.length
  ·have hk':(k:Int)<(OZ.length:Int):=by omega
   obtain⟨pb,off,rfl,cz⟩:=ko.get hk;have HLK:Hid (Lab OZ[k]→∀i (h:i<OZ.length),i<k+1→Lab OZ[i]):=fun h i hi hik=>by
    rcases Nat.lt_or_ge i k with h1|h1
    ·exact HL.out i hi h1
    ·obtain rfl:i=k:=by omega
     exact h
   have HNL:Hid (¬Lab OZ[k]→¬qcr bs NZ OZ):=fun h h'=>h ((HOUT.out h').1 k hk)
   clear kx ko;generalize OZ[k]=z at *;by_cases hz1:z<0
   ·have HN:Hid (¬qcr bs NZ OZ):=HNL.out (fun h=>by unfold Lab at h;omega)
    go_wp2;go_ret;exact⟨NOT.out _ HN.out,XV.out⟩
   ·by_cases hz2:65535<z
    ·have HN:Hid (¬qcr bs NZ OZ):=HNL.out (fun h=>by unfold Lab at h;omega)
     go_wp2;go_ret;exact⟨NOT.out _ HN.out,XV.out⟩
    ·have HL2:=qaa (HLK.out ⟨by omega,by omega⟩)
     go_wp2;go_roundg (OZ.length-(k+1)+1)
     case measure=>have:=HG.out;omega
     case rel=>exact⟨k+1,by first|rfl|go_num|(congr 1;omega),by omega,HL2,X,by omega⟩
  ·have hk':¬(k:Int)<(OZ.length:Int):=by omega
   have HLA:Hid (∀i (h:i<OZ.length),Lab OZ[i]):=fun i hi=>HL.out i hi (by omega)
   clear kx ko HL;go_wp2;go_loopg [5] (NZ.length+1) (fun g x wr=>∃k:Nat,x=.int .i64 (k:Nat)∧k≤NZ.length∧Hid (∀i (h:i<NZ.length),i<k→0≤NZ[i]∧NZ[i]<(OZ.length:Int))∧Hid (Below w2.heap.size w2 wr)∧NZ.length-k<g)
   case atStart=>exact⟨0,rfl,by omega,fun i _ h=>by omega,X,by omega⟩
   case round=>
    clear hk' hk hk1 X XV c0 c1 c2 HG;obtain⟨k,rfl,hk1,HL,X,hg⟩:=hrel;have HG:=qaa hg;have XV:=qaa (bt HX2.out X.out (Nat.le_refl _));clear hg;obtain⟨c0,c1,c2,kx,ko⟩:=HC.out wr X.out;by_cases hk:k<NZ.length
    ·have hk':(k:Int)<(NZ.length:Int):=by omega
     obtain⟨pb,off,rfl,cz⟩:=kx.get hk;have HLK:Hid (0≤NZ[k]∧NZ[k]<(OZ.length:Int)→∀i (h:i<NZ.length),i<k+1→0≤NZ[i]∧NZ[i]<(OZ.length:Int)):=fun h i hi hik=>by
      rcases Nat.lt_or_ge i k with h1|h1
      ·exact HL.out i hi h1
      ·obtain rfl:i=k:=by omega
       exact h
     have HNL:Hid (¬(0≤NZ[k]∧NZ[k]<(OZ.length:Int))→¬qcr bs NZ OZ):=fun h h'=>h ((HOUT.out h').2 k hk)
     clear kx ko;generalize NZ[k]=z at *;by_cases hz1:z<0
     ·have HN:Hid (¬qcr bs NZ OZ):=HNL.out (fun h=>by omega)
      have hd:decide (z<0)=true:=decide_eq_true hz1;go_wp2;go_quiet (fail);have XQ:Hid (Below w.heap.size w (wr.drewN nq)):=XV.out.trans ⟨rfl,rfl,rfl,Nat.le_refl _,fun _ _=>rfl⟩;go_wp2;go_ret;exact⟨NOT.out _ HN.out,XQ.out⟩
     ·have hd:decide (z<0)=false:=decide_eq_false hz1
      by_cases hz2:(OZ.length:Int)≤z
      ·have HN:Hid (¬qcr bs NZ OZ):=HNL.out (fun h=>by omega)
       have hd2:decide ((OZ.length:Int)≤z)=true:=decide_eq_true hz2;go_wp2;go_quiet (fail);have XQ:Hid (Below w.heap.size w (wr.drewN nq)):=XV.out.trans ⟨rfl,rfl,rfl,Nat.le_refl _,fun _ _=>rfl⟩;go_wp2;go_ret;exact⟨NOT.out _ HN.out,XQ.out⟩
      ·have HL2:=qaa (HLK.out ⟨by omega,by omega⟩)
       have hd2:decide ((OZ.length:Int)≤z)=false:=decide_eq_false hz2;go_wp2;go_quiet (fail);have XQ:Hid (Below w2.heap.size w2 (wr.drewN nq)):=X.out.trans ⟨rfl,rfl,rfl,Nat.le_refl _,fun _ _=>rfl⟩;go_wp2;go_roundg (NZ.length-(k+1)+1)
       case measure=>have:=HG.out;omega
       case rel=>exact⟨k+1,by first|rfl|go_num|(congr 1;omega),by omega,HL2,XQ,by omega⟩
    ·have hk':¬(k:Int)<(NZ.length:Int):=by omega
     have HF:Hid (qcr bs NZ OZ):=HIN.out HLA.out (fun i hi=>HL.out i hi (by omega));clear kx ko;go_wp2;go_ret;exact⟨⟨true,rfl,by simp[HF.out]⟩,XV.out⟩
end Go.Proofs.YtdgoilkgplnhfaaGreat

