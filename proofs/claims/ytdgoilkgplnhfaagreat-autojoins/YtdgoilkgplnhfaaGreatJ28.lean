/-
  The code's byLabel by its contract. Condition: at most 65536 states.
-/
import Derived.Test.YtdgoilkgplnhfaaGreatJ21
import Derived.Test.YtdgoilkgplnhfaaGreatJ13
namespace Go.Proofs.YtdgoilkgplnhfaaGreat
open Go.RowKit Go.Lib
theorem PrM.mono {w:World} {base base' pb:Nat} {lv pv ov rv:Value} {L P O:List Nat} {R:List Rm} (h:PrM w base pb lv pv ov rv L P O R) (hb:base'≤base):PrM w base' pb lv pv ov rv L P O R:=by
 refine⟨h.blk,Nat.le_trans hb h.ge,⟨fun j hj=>(h.rws.own j hj).mono' hb,h.rws.ap⟩,?_⟩;have oR:w.ownsRow base 164 3 rv R.length (qao R):=h.own;refine⟨oR.1,?_⟩;rcases oR.2 with hn|⟨g,cap,cur,e,h1,r⟩
 ·exact .inl hn
 ·exact .inr ⟨g,cap,cur,e,Nat.le_trans hb h1,r⟩
theorem PrM.pushA {w wA w6:World} {base pb:Nat} {lv pv ov rv v':Value} {L P O:List Nat} {R:List Rm} (h:PrM w base pb lv pv ov rv L P O R) (x:Below w.heap.size w wA) {r:Rm} (h1:w6.ownsRow base 164 3 v' (R.length+1) (qao R++rmC r)) (h2:qbb wA w6 rv v'):
 w6.heap[pb]? =some (.cells #[lv,pv,ov,rv] 161 (0,0))∧PrM (w6.setCell ⟨pb,3,none⟩ v') base pb lv pv ov v' L P O (R++[r])∧Kept (fun b=>inP lv pv ov rv b∨b=pb) w (w6.setCell ⟨pb,3,none⟩ v'):=by
 have hA:=h.below x;have oR:wA.ownsRow base 164 3 rv R.length (qao R):=hA.own;obtain⟨G,k6,hG⟩:∃G:Nat→Prop,Kept G wA w6∧(∀b,G b→rv.ownBlock=some b):=by
  rcases h2 with⟨q,a,b,c⟩|⟨a,b⟩
  ·exact⟨fun b=>some q=some b,qae c,fun b hb=>a.trans hb⟩
  ·exact⟨fun _=>False,Kept.of_below (qad a),fun b hb=>hb.elim⟩
 have b6:w6.heap[pb]? =some (.cells #[lv,pv,ov,rv] 161 (0,0)):=(k6.block pb (lt_of_block hA.blk) (fun e=>hA.notpb pb (.inr (.inr (.inr (hG _ e)))) rfl)).trans hA.blk;have r6:=hA.rws.kept k6 (fun j hj b hb e=>qa5 (show wA.ownsRow base 3 1 _ _ (qab _) from hA.rws.own j hj) oR (by decide) b hb (hG b e));have k7:Kept (fun b=>b=pb) w6 (w6.setCell ⟨pb,3,none⟩ v'):=(Kept.refl (fun b=>b=pb) w6).setCell (p:=⟨pb,3,none⟩) rfl _;have hty:∀ {v:Value} {size m:Nat} {e:TypeId} {xs:List Value},w6.ownsRow base e size v m xs→e≠161→∀b,v.ownBlock=some b→¬b=pb:=fun ho hne b hb e=>by
  obtain⟨cs,hc⟩:=qbl ho b hb;rw[e,b6] at hc;injection hc with hc
  injection hc with _ hc _
  exact hne hc.symm
 refine⟨b6,⟨block_setCell b6 3 _,h.ge,r6.kept k7 (fun j hj b hb=>hty (show w6.ownsRow base 3 1 _ _ (qab _) from r6.own j hj) (by decide) b hb),?_⟩,?_⟩
 ·unfold qes
  rw[qc0,List.length_append,List.length_singleton];exact qai h1 k7 (hty h1 (by decide))
 ·exact((Kept.of_below x).trans (k6.mono (fun b hb=>.inl (.inr (.inr (.inr (hG b hb))))))).trans (k7.mono (fun b hb=>.inr hb))
theorem ByS.step {n:Nat} {OU L P O:List Nat} {i:Nat} {R R1:List Rm} (h:ByS n OU L i P O R) (hL:LsS n OU L) (hi:i<n) (hc:((i=0∨¬gN OU (gN L i)=gN OU (gN L (i-1)))∧R1=R++[⟨i,i,0⟩])∨(¬(i=0∨¬gN OU (gN L i)=gN OU (gN L (i-1)))∧R1=R)):
 0<R1.length∧ByS n OU L (i+1) (P.set (gN L i) i) (O.set (gN L i) (R1.length-1)) (R1.set (R1.length-1) ⟨(gR R1 (R1.length-1)).a,(gR R1 (R1.length-1)).m,i+1⟩):=by
 rcases hc with⟨hd,rfl⟩|⟨hd,rfl⟩
 ·have hl:(R++[(⟨i,i,0⟩:Rm)]).length-1=R.length:=by simp
  rw[hl,qgl,List.set_append_right _ _ (Nat.le_refl _),Nat.sub_self,List.set_cons_zero];exact⟨by simp,h.new hL hi hd⟩
 ·have h0:0<i:=by
   rcases Nat.eq_zero_or_pos i with e|e
   ·exact absurd (.inl e) hd
   ·exact e
  exact h.more hL hi h0 (Classical.byContradiction fun e=>hd (.inr e)) rfl
set_option maxRecDepth 100000 in
set_option maxHeartbeats 8000000 in
theorem qha (oa:Option Addr) (oc:Nat) (OU:List Nat) (w:World) (hn0:0<OU.length) (hn:OU.length≤65536) (hat:NAt w oa OU):
 Calls Tryz.prog 113 #[.slice oa OU.length oc] w fun e w'=>(∃pb,e=.returned (.pointer (some ⟨pb,0,none⟩))∧∃lv pv ov rv L P O R,PrM w' w.heap.size pb lv pv ov rv L P O R∧PtS OU.length L P O R∧Plain R∧∀s,s<OU.length→∀t,t<OU.length→(gN O s=gN O t↔gN OU s=gN OU t))∧Below w.heap.size w w':=by
 have X1:Below w.heap.size w (w.alloc (.cells #[.slice oa OU.length oc] 22)):=al (Below.refl _ _) _;have B1:=heap_alloc_new w (.cells #[.slice oa OU.length oc] 22);obtain⟨w1,hw1⟩:∃w1,w1=w.alloc (.cells #[.slice oa OU.length oc] 22):=⟨_,rfl⟩;rw[←hw1] at X1 B1;have hs1:w1.heap.size=w.heap.size+1:=by rw[hw1];simp
 have c1:w1.cell? ⟨w.heap.size,0,none⟩=some (.slice oa OU.length oc):=by rw[cell_of_row _ _ _ _ _ _ B1];rfl
 have HX1:=qaa X1;have HB1:=qaa B1;have HAT:=qaa hat;have HS1:=qaa hs1;clear X1 B1 hat hs1;have hmk:=qeu OU.length (OU.length:Int) rfl (by omega);have HM4:=qaa (fun(wx:World) (pb lg pg og:Nat) h1 h2 h3 h4 n1 n2 n3 g1 g2 g3 g4=>PrM.mk4 (w0:=w1) (V:=w1) (wx:=wx) (n:=OU.length) (pb:=pb) (lg:=lg) (pg:=pg) (og:=og) (by unfold maxLen;omega) (Nat.le_refl _) h1 h2 h3 h4 n1 n2 n3 g1 g2 g3 g4);go_enter Tryz.func113,Tryz.ntmps113;go_upto_region 1 with fail
 rw[←hw1];clear hw1;go_cut [3] (fun s3 wx=>∃pb lg pg og:Nat,s3=.pointer (some ⟨pb,0,none⟩)∧Hid (PrM wx w1.heap.size pb (.slice (some ⟨lg,0,none⟩) OU.length OU.length) (.slice (some ⟨pg,0,none⟩) OU.length OU.length) (.slice (some ⟨og,0,none⟩) OU.length OU.length) (.slice none 0 0) (List.replicate OU.length 0) (List.replicate OU.length 0) (List.replicate OU.length 0) [])∧Hid (Below w1.heap.size w1 wx))
 case first=>
  as_aux_lemma=>
   have n1:¬w.heap.size=w1.heap.size:=by have:=HS1.out;omega
   have n2:¬w.heap.size=w1.heap.size+1:=by have:=HS1.out;omega
   have n3:¬w.heap.size=w1.heap.size+1+1:=by have:=HS1.out;omega
   have l1:w.heap.size<w1.heap.size:=by have:=HS1.out;omega
   have y1:Below w1.heap.size w1 (w1.alloc (.cells (madeCells #[.int .i64 0] OU.length) 3)):=al (Below.refl _ _) _;have y2:=(qap w1 (madeCells #[.int .i64 0] OU.length) (madeCells #[.int .i64 0] OU.length) 3 3).1;have e1:=(y1.cell (p:=⟨w.heap.size,0,none⟩) l1).trans c1;have e2:=(y2.cell (p:=⟨w.heap.size,0,none⟩) l1).trans c1;clear y1 y2;go_region
   all_goals
    go_wp2;go_meet;exact⟨_,_,_,_,rfl,HM4.out _ _ _ _ _ (qa6 _ _ _ _ _ _ _ _ _).2.2.2.2 (by first|exact(qa6 _ _ _ _ _ _ _ _ _).2.1|exact(qa6 _ _ _ _ _ _ _ _ _).2.2.1|exact(qa6 _ _ _ _ _ _ _ _ _).2.2.2.1) (by first|exact(qa6 _ _ _ _ _ _ _ _ _).2.1|exact(qa6 _ _ _ _ _ _ _ _ _).2.2.1|exact(qa6 _ _ _ _ _ _ _ _ _).2.2.2.1) (by first|exact(qa6 _ _ _ _ _ _ _ _ _).2.1|exact(qa6 _ _ _ _ _ _ _ _ _).2.2.1|exact(qa6 _ _ _ _ _ _ _ _ _).2.2.2.1) (by omega) (by omega) (by omega) (by omega) (by omega) (by omega) (by omega),(qa6 _ _ _ _ _ _ _ _ _).1⟩
 case rest=>
  obtain⟨pb,lg,pg,og,rfl,M0,X2⟩:=hcut
  as_aux_lemma=>
   have l1:w.heap.size<w1.heap.size:=by have:=HS1.out;omega
   have HC:Hid (∀V,Below w1.heap.size w1 V→V.cell? ⟨w.heap.size,0,none⟩=some (.slice oa OU.length oc)∧NAt V oa OU):=fun V x=>⟨(x.cell (p:=⟨w.heap.size,0,none⟩) l1).trans c1,HAT.out.below (bt HX1.out x (Nat.le_refl _))⟩
   obtain⟨e0,_⟩:=HC.out _ X2.out;have hlgl:w1.heap.size≤lg:=(World.ownsRow.lt (show wc.ownsRow w1.heap.size 3 1 (.slice (some ⟨lg,0,none⟩) OU.length OU.length) _ (qab _) from M0.out.rws.own 0 (by simp)) lg rfl).1;clear c1;go_wp2;go_loopg [21] (OU.length+1) (fun g x wr=>∃(i:Nat) (L:List Nat),x=.int .i64 (i:Nat)∧Hid (PrM wr w1.heap.size pb (.slice (some ⟨lg,0,none⟩) OU.length OU.length) (.slice (some ⟨pg,0,none⟩) OU.length OU.length) (.slice (some ⟨og,0,none⟩) OU.length OU.length) (.slice none 0 0) L (List.replicate OU.length 0) (List.replicate OU.length 0) [])∧Hid (L.length=OU.length∧∀j,j<i→gN L j=j)∧Hid (Below w1.heap.size w1 wr)∧i≤OU.length∧OU.length-i<g)
   case atStart=>exact⟨0,_,rfl,M0,⟨by simp,fun j hj=>by omega⟩,X2,by omega,by omega⟩
   case round=>
    obtain⟨i,L,rfl,M,HL,X,hil,hg⟩:=hrel;have HG:=qaa hg;clear hg M0 X2 e0;by_cases hi:i<OU.length
    ·have hi':(i:Int)<(OU.length:Int):=by omega
     obtain⟨m0,_,_,_⟩:=M.out.cells;obtain⟨x1,x2⟩:=qan.slot (M.out.rws.own 0 (by simp)) (i:=i) (by show i<L.length;have:=HL.out.1;omega);obtain⟨v1,x1⟩:∃v,wr.cell? ⟨lg,i,none⟩=some v:=⟨_,x1⟩;have M1:=qaa (M.out.setL i i);have X1':Hid (Below w1.heap.size w1 (wr.setCell ⟨lg,i,none⟩ (.int .i64 (i:Int)))):=X.out.setCell hlgl _;have HL1:Hid ((L.set i i).length=OU.length∧∀j,j<i+1→gN (L.set i i) j=j):=⟨by rw[List.length_set];exact HL.out.1,fun j hj=>by
      rw[qbw L (by have:=HL.out.1;omega)];by_cases e:j=i
      ·rw[if_pos e];exact e.symm
      ·rw[if_neg e];exact HL.out.2 j (by omega)⟩
     go_wp2;go_roundg (OU.length-(i+1)+1)
     case measure=>have:=HG.out;omega
     case rel=>exact⟨i+1,_,by first|rfl|go_num|(congr 1;omega),M1,HL1,X1',by omega,by omega⟩
    ·have hi':¬(i:Int)<(OU.length:Int):=by omega
     obtain rfl:i=OU.length:=by omega
     as_aux_lemma=>
      have hmf:∀(fn:Fn) (first cap:Array Value) (w:World),(Instr.makeFunc fn first cap).run Tryz.prog w=.ok (.func fn first cap) w:=fun _ _ _ _=>rfl
      obtain⟨e0,en⟩:=HC.out _ X.out;obtain⟨m0,_,_,_⟩:=M.out.cells;have HSO:=qaa (qji wr w1.heap.size pb lg OU.length w.heap.size oc oa _ _ _ L _ _ OU _ M.out HL.out.1 HL.out.2 rfl hn0 hn e0 (Nat.lt_of_lt_of_le l1 X.out.size) (by omega) en (fun b off e=>by
       have hbl:b<w.heap.size:=by
        rcases HAT.out with h9|⟨b',off',h9,h10,_⟩
        ·rw[h9] at hn0;cases hn0
        ·rw[h9] at e;injection e with e;injection e with e _ _;omega
       omega))
      clear en;go_wp2_with (fail);refine HSO.out.mono ?_;rintro e w4 ⟨rfl,L',hLs,M4,k4⟩;have HLS:=qaa hLs;have X4:Hid (Below w1.heap.size w1 w4):=X.out.trans (k4.below X.out.size (fun b hb=>by omega));have M5:=qaa M4;have hl':=hLs.ll;have HLL:=qaa hl';have C0:Hid (ByS OU.length OU L' 0 (List.replicate OU.length 0) (List.replicate OU.length 0) []):=ByS.start (by simp) (by simp);obtain⟨m0',_,_,_⟩:=M4.cells;clear HSO M HL hLs M4 k4 m0 X hl';go_wp2;obtain⟨i16,hi16,hz160,hz161,hz162⟩:=info_parts Tryz.info164n;go_loopg [43] (OU.length+1) (fun g x wr=>∃(i:Nat) (P O:List Nat) (R:List Rm) (rv:Value),x=.int .i64 (i:Nat)∧Hid (PrM wr w1.heap.size pb (.slice (some ⟨lg,0,none⟩) OU.length OU.length) (.slice (some ⟨pg,0,none⟩) OU.length OU.length) (.slice (some ⟨og,0,none⟩) OU.length OU.length) rv L' P O R)∧Hid (ByS OU.length OU L' i P O R)∧Hid (Below w1.heap.size w1 wr)∧i≤OU.length∧OU.length-i<g)
      case atStart=>exact⟨0,_,_,_,_,rfl,M5,C0,X4,by omega,by omega⟩
      case round=>
       obtain⟨i,P,O,R,rv,rfl,M,C,X,hil,hg⟩:=hrel;have HG:=qaa hg;clear hg M5 C0 X4 e0 m0';obtain⟨e0,en⟩:=HC.out _ X.out;obtain⟨m0,m1,m2,m3⟩:=M.out.cells;by_cases hi:i<OU.length
       ·as_aux_lemma=>
         have hi':(i:Int)<(OU.length:Int):=by omega
         obtain⟨_,e9,cl⟩:=qan.gcell (show qan wr w1.heap.size (.slice (some ⟨lg,0,none⟩) L'.length OU.length) L' by have:=M.out.rws.own 0 (by simp);rw[HLL.out];exact this) (k:=i) (by have:=HLL.out;omega);simp only[Option.some.injEq,Addr.mk.injEq,and_true] at e9;subst e9;have hsn:=HLS.out.lt i hi;have hRl:=C.out.le;have HST:=qaa (fun R1 hc=>C.out.step (R1:=R1) HLS.out hi hc);obtain⟨ob,off,rfl,hob,co⟩:=en.get hsn;rw[←qah hsn] at co;go_upto_region 11 with fail
         go_cut [67] (fun s67 wx=>∃b:Bool,s67=.bool b∧Hid (b=true↔(i=0∨¬gN OU (gN L' i)=gN OU (gN L' (i-1))))∧Hid (Below wr.heap.size wr wx))
         case first=>
          as_aux_lemma=>
           by_cases h0:i=0
           ·have h0':(i:Int)=0:=by omega
            have h0b:((i:Int)==0)=true:=by simp;omega
            have h0d:decide ((i:Int)=0)=true:=by simp;omega
            have h0e:(i==0)=true:=by simp;omega
            go_quiet (fail);go_wp2;go_meet;exact⟨true,rfl,⟨fun _=>.inl h0,fun _=>rfl⟩,⟨rfl,rfl,rfl,Nat.le_refl _,fun _ _=>rfl⟩⟩
           ·have h0':¬(i:Int)=0:=by omega
            have h0b:((i:Int)==0)=false:=by simp;omega
            have h0d:decide ((i:Int)=0)=false:=by simp;omega
            have h0e:(i==0)=false:=by simp;omega
            have hpn:=HLS.out.lt (i-1) (by omega);obtain⟨_,_,e8,_,co2⟩:=en.get hpn;simp only[Option.some.injEq,Addr.mk.injEq,and_true] at e8;obtain⟨rfl,rfl⟩:=e8;rw[←qah hpn] at co2;obtain⟨_,e7,cl2⟩:=qan.gcell (show qan wr w1.heap.size (.slice (some ⟨lg,0,none⟩) L'.length OU.length) L' by have:=M.out.rws.own 0 (by simp);rw[HLL.out];exact this) (k:=i-1) (by have:=HLL.out;omega);simp only[Option.some.injEq,Addr.mk.injEq,and_true] at e7;subst e7;have q1:IntKind.i64.wrap ((i:Int)-1)=((i-1:Nat):Int):=by rw[show(i:Int)-1=((i-1:Nat):Int) by omega];exact qak _ (by omega)
            have q2:((i-1:Nat):Int)<(OU.length:Int):=by omega
            have q3:(gN L' i:Int)<(OU.length:Int):=by omega
            have q4:(gN L' (i-1):Int)<(OU.length:Int):=by omega
            go_quiet (fail);go_wp2;go_meet;exact⟨_,rfl,⟨fun h9=>.inr (fun h8=>by simp at h9;omega),fun h9=>by
             rcases h9 with h9|h9
             ·exact absurd h9 h0
             ·simp;omega⟩,⟨rfl,rfl,rfl,Nat.le_refl _,fun _ _=>rfl⟩⟩
         case rest=>
          obtain⟨b,rfl,HB,X5⟩:=hcut;rename World=>wz
          have Mz:=qaa (M.out.below X5.out);have Xz:Hid (Below w1.heap.size w1 wz):=bt X.out X5.out (Nat.le_refl _)|>fun h=>h
          clear M X X5 m0 m1 m2 m3 cl co e0 en;have hRn:R.length≤65536:=by omega
          have lpb:pb<wz.heap.size:=lt_of_block Mz.out.blk;have gpb:w1.heap.size≤pb:=Mz.out.ge;go_upto_if 67 with fail
          go_cut [] (fun wx=>∃(rv':Value) (R1:List Rm),Hid (PrM wx w1.heap.size pb (.slice (some ⟨lg,0,none⟩) OU.length OU.length) (.slice (some ⟨pg,0,none⟩) OU.length OU.length) (.slice (some ⟨og,0,none⟩) OU.length OU.length) rv' L' P O R1)∧Hid (((i=0∨¬gN OU (gN L' i)=gN OU (gN L' (i-1)))∧R1=R++[⟨i,i,0⟩])∨(¬(i=0∨¬gN OU (gN L' i)=gN OU (gN L' (i-1)))∧R1=R))∧Hid (Below w1.heap.size w1 wx))
          case first=>
           as_aux_lemma=>
            cases b with
            |false=>
             go_wp2;go_meet;exact⟨rv,R,Mz,.inr ⟨fun h9=>(by have:=HB.out.2 h9;cases this),rfl⟩,Xz⟩
            |true=>
             have HNEW:=qaa (HB.out.1 rfl);obtain⟨_,_,_,m3⟩:=Mz.out.cells;obtain⟨ra,rc,hrv⟩:=Mz.out.own.shape;subst hrv;have n2:¬pb=wz.heap.size:=by omega
             have XA:Hid (Below wz.heap.size wz (wz.alloc (.cells #[.int .i64 (i:Int),.int .i64 (i:Int),.int .i64 0] 164))):=al (Below.refl _ _) _;have OW:Hid ((wz.alloc (.cells #[.int .i64 (i:Int),.int .i64 (i:Int),.int .i64 0] 164)).ownsRow w1.heap.size 164 3 (.slice ra R.length rc) R.length (qao R)):=own_below Mz.out.own XA.out;have HN:Hid (∀j z,(rmC ⟨i,i,0⟩)[j]? =some z→(wz.alloc (.cells #[.int .i64 (i:Int),.int .i64 (i:Int),.int .i64 0] 164)).cell? ((⟨wz.heap.size,0,none⟩:Addr).add j)=some z):=fun j z hz=>new3 wz ⟨i,i,0⟩ j z hz
             have HSZ:Hid (w1.heap.size≤(wz.alloc (.cells #[.int .i64 (i:Int),.int .i64 (i:Int),.int .i64 0] 164)).heap.size):=Nat.le_trans Xz.out.size XA.out.size;have HPU:=qaa (fun(v6:Value) (w6:World) g1 g2=>Mz.out.pushA XA.out (r:=⟨i,i,0⟩) (v':=v6) (w6:=w6) g1 g2);have HRG:Hid (∀b,inP (.slice (some ⟨lg,0,none⟩) OU.length OU.length) (.slice (some ⟨pg,0,none⟩) OU.length OU.length) (.slice (some ⟨og,0,none⟩) OU.length OU.length) (.slice ra R.length rc) b∨b=pb→w1.heap.size≤b):=fun b hb=>by
              have hx:∀(j:Nat) (hj:j<3),([((.slice (some ⟨lg,0,none⟩) OU.length OU.length:Value),L'),(.slice (some ⟨pg,0,none⟩) OU.length OU.length,P),(.slice (some ⟨og,0,none⟩) OU.length OU.length,O)]:List RN)[j].1.ownBlock=some b→w1.heap.size≤b:=fun j hj hf=>(World.ownsRow.lt (show wz.ownsRow w1.heap.size 3 1 _ _ (qab _) from Mz.out.rws.own j hj) b hf).1
              rcases hb with(hb|hb|hb|hb)|hb
              ·exact hx 0 (by decide) hb
              ·exact hx 1 (by decide) hb
              ·exact hx 2 (by decide) hb
              ·exact(World.ownsRow.lt (show wz.ownsRow w1.heap.size 164 3 (.slice ra R.length rc) R.length (qao R) from Mz.out.own) b hb).1
              ·omega
             go_wp2_with (at_builtin;refine qac rfl (.tmp 72) (.tmp 76) 159 rfl w1.heap.size 164 i16 (.agg #[.int .i64 0,.int .i64 0,.int .i64 0]) 3 24 Tryz.underlying159 hi16 hz160 hz161 hz162 rfl (by decide) _ R.length (qao R) rfl OW.out ⟨wz.heap.size,0,none⟩ 1 1 (rmC ⟨i,i,0⟩) rfl rfl HN.out (by simp[rmC,Value.oneCell']) (by decide) (by unfold maxLen;omega) (by omega) HSZ.out ?_;intro v6 w6 g1 g2;obtain⟨a6,c6,hv6,_⟩:=qag g1;subst hv6;obtain⟨b6,PU1,PU2⟩:=HPU.out _ w6 g1 g2;have d1:w6.cell? ⟨pb,3,none⟩=some (.slice ra R.length rc):=(by rw[cell_of_row _ _ _ _ _ _ b6];rfl);have f1:=frozen_of_row _ _ 3 _ _ b6;have PU:=qaa PU1;have XU:=qaa (Xz.out.trans (PU2.below Xz.out.size HRG.out));clear g1 g2 b6 PU1 PU2);go_wp2;go_meet;exact⟨_,_,PU,.inl ⟨HNEW.out,rfl⟩,XU⟩
          case rest=>
           obtain⟨rv',R1,M1,HC1,X1⟩:=hcut;rename World=>wy
           obtain⟨hR1,HBY⟩:=HST.out R1 HC1.out
           as_aux_lemma=>
            have HBY':=qaa HBY;have hR1n:R1.length≤65537:=by
             rcases HC1.out with⟨_,h9⟩|⟨_,h9⟩
             ·rw[h9];simp;omega
             ·rw[h9];omega
            obtain⟨rg,rc,rfl⟩:=M1.out.own.at hR1;obtain⟨_,_,_,m3⟩:=M1.out.cells;have hk:R1.length-1<R1.length:=by omega
            obtain⟨M2,k2⟩:=M1.out.ends hk (i+1);have oR:wy.ownsRow w1.heap.size 164 3 (.slice (some ⟨rg,0,none⟩) R1.length rc) R1.length (qao R1):=M1.out.own;obtain⟨vz,z2⟩:∃v,wy.cell? ⟨rg,(R1.length-1)*3+2,none⟩=some v:=⟨_,M1.out.own.cell hk (show 2<3 by decide)⟩;have z3:=oR.frozenAt ((R1.length-1)*3+2);have q1:IntKind.i64.wrap ((R1.length:Int)-1)=((R1.length-1:Nat):Int):=by rw[show(R1.length:Int)-1=((R1.length-1:Nat):Int) by omega];exact qak _ (by omega)
            have q2:((R1.length-1:Nat):Int)<(R1.length:Int):=by omega
            have q3:IntKind.i64.wrap ((i:Int)+1)=((i+1:Nat):Int):=by rw[show(i:Int)+1=((i+1:Nat):Int) by simp];exact qak _ (by omega)
            have HM2:=qaa M2;have hrgge:w1.heap.size≤rg:=(World.ownsRow.lt oR rg rfl).1;have X2':Hid (Below w1.heap.size w1 (wy.setCell ⟨rg,(R1.length-1)*3+2,none⟩ (.int .i64 ((i+1:Nat):Int)))):=X1.out.setCell hrgge _;clear M2 k2 oR HBY;go_upto_region 15 with fail
            as_aux_lemma=>
             have e1:((i+1:Nat):Int)=(i:Int)+1:=by simp
             rw[e1] at HM2 X2';clear e1 z2 z3 m3;generalize wy.setCell ⟨rg,(R1.length-1)*3+2,none⟩ (.int .i64 ((i:Int)+1))=w6 at *;obtain⟨_,d1,d2,_⟩:=HM2.out.cells;have hPl:gN L' i<P.length:=by have:=C.out.pl;omega
             have hOl:gN L' i<O.length:=by have:=C.out.ol;omega
             obtain⟨y1,y2⟩:=qan.slot (HM2.out.rws.own 1 (by simp)) (i:=gN L' i) hPl;obtain⟨y3,y4⟩:=qan.slot (HM2.out.rws.own 2 (by simp)) (i:=gN L' i) hOl;obtain⟨v1,y1⟩:∃v,w6.cell? ⟨pg,gN L' i,none⟩=some v:=⟨_,y1⟩;obtain⟨v3,y3⟩:∃v,w6.cell? ⟨og,gN L' i,none⟩=some v:=⟨_,y3⟩;have npo:¬og=pg:=fun e=>HM2.out.rws.ap 1 (by simp) 2 (by simp) (by decide) pg rfl (by rw[←e];rfl)
             have nop:¬pg=og:=fun e=>npo e.symm
             have s1:(gN L' i:Int)<(OU.length:Int):=by omega
             have M7:=qaa ((HM2.out.setPO (gN L' i) i (R1.length-1)).below (Below.refl _ _).drew);have gpg:w1.heap.size≤pg:=(World.ownsRow.lt (show w6.ownsRow w1.heap.size 3 1 (.slice (some ⟨pg,0,none⟩) OU.length OU.length) P.length (qab P) from HM2.out.rws.own 1 (by simp)) pg rfl).1;have gog:w1.heap.size≤og:=(World.ownsRow.lt (show w6.ownsRow w1.heap.size 3 1 (.slice (some ⟨og,0,none⟩) OU.length OU.length) O.length (qab O) from HM2.out.rws.own 2 (by simp)) og rfl).1;have X7:Hid (Below w1.heap.size w1 ((w6.setCell ⟨pg,gN L' i,none⟩ (.int .i64 (i:Int))).setCell ⟨og,gN L' i,none⟩ (.int .i64 ((R1.length-1:Nat):Int))).drew):=((X2'.out.setCell (p:=⟨pg,gN L' i,none⟩) gpg _).setCell (p:=⟨og,gN L' i,none⟩) gog _).drew;go_region;go_wp2;go_roundg (OU.length-(i+1)+1)
             case measure=>have:=HG.out;omega
             case rel=>exact⟨i+1,_,_,_,_,by first|rfl|go_num|(congr 1;omega),M7,HBY',X7,by omega,by omega⟩
       ·have hi':¬(i:Int)<(OU.length:Int):=by omega
        obtain rfl:i=OU.length:=by omega
        obtain⟨f1,f2,f3⟩:=C.out.fin HLS.out;have Mf:=qaa (M.out.mono (base':=w.heap.size) (by have:=HS1.out;omega));have Xf:=qaa (bt HX1.out X.out (Nat.le_refl _));go_wp2;go_ret;exact⟨⟨pb,rfl,_,_,_,rv,L',P,O,R,Mf.out,f1,f2,f3⟩,Xf.out⟩
theorem qks.mono {D:DF} {N N':Nat} (h:qks D N) (hN:N'≤N):qks D N':=by
 obtain⟨g,h1,h2⟩:=h;exact⟨g,fun i hi=>h1 i (by omega),fun i hi j hj=>h2 i (by omega) j (by omega)⟩
theorem qdr.weak {D:DF} {k k' m:Nat} {f:Nat→Nat} (h:qdr D k m f) (hk:k'≤k):qdr D k' m f:=
 ⟨h.lt,h.co,h.ou,fun s hs t ht e c hc=>by
   rcases h.hop s hs t ht e c hc with h1|h1|h1
   ·exact .inl h1
   ·exact .inr (.inl (by omega))
   ·exact .inr (.inr (by omega))⟩
theorem PtS.occ {n:Nat} {L P O:List Nat} {R:List Rm} (h:PtS n L P O R):∀r,r<R.length→∃s,s<n∧gN O s=r:=fun r hr=>by
 have h1:=h.rm r hr;exact⟨gN L (gR R r).a,(h.li _ (by omega)).1,h.ro r hr _ (Nat.le_refl _) h1.2.2.1⟩
theorem qfy {D:DF} {n k:Nat} {L P O:List Nat} {R:List Rm} (hD:D.Ok) (hn:D.n=n) (hp:PtS n L P O R) (hh:qdr D k R.length (gN O)) (he:R.length≤k∨R.length=n∨256<R.length):
 (R.length≤256→∀s,s<n→∀t,t<n→(gN O s=gN O t↔D.Eqv s t))∧(¬R.length≤256→qks D 257):=by
 subst hn;refine⟨fun h1=>?_,fun h1=>(hh.many hp.occ).mono (by omega)⟩;rcases he with he|he|he
 ·exact(hh.weak he).done hD
 ·exact hh.alone (hp.alone he)
 ·omega
theorem qdr.first {D:DF} {m:Nat} {f:Nat→Nat} (hlt:∀s,s<D.n→f s<m) (hl:∀s,s<D.n→∀t,t<D.n→(f s=f t↔D.ou s=D.ou t)):qdr D 0 m f:=
 ⟨hlt,fun s hs t ht e=>(hl s hs t ht).2 e.ou,fun s hs t ht e=>(hl s hs t ht).1 e,fun _ _ _ _ _ _ _=>.inr (.inl (Nat.zero_le _))⟩
structure ClS (n:Nat) (O:List Nat) (k:Nat) (T:List Nat):Prop where
 lt:∀j,j<T.length→gN T j<n
 nd:∀i,i<T.length→∀j,j<T.length→gN T i=gN T j→i=j
 is:∀x,x<n→((∃j,j<T.length∧x=gN T j)↔gN O x=k)
theorem PtS.clone {n:Nat} {L P O:List Nat} {R:List Rm} (h:PtS n L P O R) {k:Nat} (hk:k<R.length):((L.drop (gR R k).a).take ((gR R k).e-(gR R k).a)).length=(gR R k).e-(gR R k).a∧ClS n O k ((L.drop (gR R k).a).take ((gR R k).e-(gR R k).a)):=by
 have h1:=h.rm k hk;have hl:((L.drop (gR R k).a).take ((gR R k).e-(gR R k).a)).length=(gR R k).e-(gR R k).a:=by
  rw[List.length_take,List.length_drop,h.ll];omega
 have hg:∀j,j<(gR R k).e-(gR R k).a→gN ((L.drop (gR R k).a).take ((gR R k).e-(gR R k).a)) j=gN L ((gR R k).a+j):=fun j hj=>by
  rw[qah (by rw[hl];exact hj),qah (show(gR R k).a+j<L.length by rw[h.ll];omega)];simp
 refine⟨hl,fun j hj=>?_,fun i hi j hj e=>?_,fun x hx=>⟨fun⟨j,hj,e⟩=>?_,fun e=>?_⟩⟩
 ·rw[hl] at hj
  rw[hg j hj];exact(h.li _ (by omega)).1
 ·rw[hl] at hi hj
  rw[hg i hi,hg j hj] at e;have a1:=(h.li ((gR R k).a+i) (by omega)).2;have a2:=(h.li ((gR R k).a+j) (by omega)).2;rw[e] at a1;omega
 ·rw[hl] at hj
  rw[e,hg j hj];exact h.ro k hk _ (by omega) (by omega)
 ·have h2:=h.os x hx
  rw[e] at h2;refine⟨gN P x-(gR R k).a,by rw[hl];omega,?_⟩;rw[hg _ (by omega),show(gR R k).a+(gN P x-(gR R k).a)=gN P x by omega];exact(h.pi x hx).2.symm
structure ApS (n sl fl:Nat) (w1:World) (pb bb sg fg:Nat) (S F:List Nat) (lv pv ov rv:Value) (L P O:List Nat) (R:List Rm) (w:World):Prop where
 pr:PrM w w1.heap.size pb lv pv ov rv L P O R
 pt:PtS n L P O R
 pl:Plain R
 ks:NAt w (some ⟨sg,0,none⟩) S
 kf:NAt w (some ⟨fg,0,none⟩) F
 d1:¬inP lv pv ov rv sg∧¬sg=pb∧sg<w.heap.size
 d2:¬inP lv pv ov rv fg∧¬fg=pb∧fg<w.heap.size
 d3:¬inP lv pv ov rv bb∧¬bb=pb
 bx:w.heap[bb]? =some (.cells #[.int .i64 (n:Int),.slice (some ⟨sg,0,none⟩) sl sl,.slice (some ⟨fg,0,none⟩) fl fl] 157 (0,0))
 bel:Below w1.heap.size w1 w
section
variable {n sl fl:Nat} {w1:World} {pb bb sg fg:Nat} {S F:List Nat} {lv pv ov rv:Value} {L P O:List Nat} {R:List Rm} {w w':World}
theorem ApS.below (h:ApS n sl fl w1 pb bb sg fg S F lv pv ov rv L P O R w) (x:Below w.heap.size w w'):ApS n sl fl w1 pb bb sg fg S F lv pv ov rv L P O R w':=
 ⟨h.pr.below x,h.pt,h.pl,h.ks.below x,h.kf.below x,⟨h.d1.1,h.d1.2.1,Nat.lt_of_lt_of_le h.d1.2.2 x.size⟩,⟨h.d2.1,h.d2.2.1,Nat.lt_of_lt_of_le h.d2.2.2 x.size⟩,h.d3,(x.block bb (lt_of_block h.bx)).trans h.bx,h.bel.trans (x.mono h.bel.size)⟩
theorem inP.ge (h:PrM w w1.heap.size pb lv pv ov rv L P O R) {b:Nat} (hb:inP lv pv ov rv b∨b=pb):w1.heap.size≤b:=by
 have hx:∀(j:Nat) (hj:j<3),([(lv,L),(pv,P),(ov,O)]:List RN)[j].1.ownBlock=some b→w1.heap.size≤b:=fun j hj hf=>(World.ownsRow.lt (show w.ownsRow w1.heap.size 3 1 _ _ (qab _) from h.rws.own j hj) b hf).1
 rcases hb with(hb|hb|hb|hb)|hb
 ·exact hx 0 (by decide) hb
 ·exact hx 1 (by decide) hb
 ·exact hx 2 (by decide) hb
 ·exact(World.ownsRow.lt (show w.ownsRow w1.heap.size 164 3 rv R.length (qao R) from h.own) b hb).1
 ·rw[hb];exact h.ge
theorem inP.new {rv':Value} {g:Nat} (hg:g<w.heap.size) (h:¬inP lv pv ov rv g) (rb:∀b,rv'.ownBlock=some b→rv.ownBlock=some b∨w.heap.size≤b):¬inP lv pv ov rv' g:=fun hf=>by
 rcases hf with hf|hf|hf|hf
 ·exact h (.inl hf)
 ·exact h (.inr (.inl hf))
 ·exact h (.inr (.inr (.inl hf)))
 ·rcases rb g hf with h1|h1
  ·exact h (.inr (.inr (.inr h1)))
  ·omega
theorem ApS.split {W c:Nat} {NX T:List Nat} {rv':Value} {L' P' O':List Nat} {R':List Rm} (h:ApS n sl fl w1 pb bb sg fg S F lv pv ov rv L P O R w) (q:SpD n W c NX T w1.heap.size pb lv pv ov rv O R rv' L' P' O' R' w w'):ApS n sl fl w1 pb bb sg fg S F lv pv ov rv' L' P' O' R' w':=by
 have hk:∀g,¬inP lv pv ov rv g→¬g=pb→¬(inP lv pv ov rv g∨g=pb):=fun g a b e=>e.elim a b
 refine⟨q.pr,q.pt,q.pl,h.ks.kept q.kp (fun b off e=>?_),h.kf.kept q.kp (fun b off e=>?_),⟨inP.new h.d1.2.2 h.d1.1 q.rb,h.d1.2.1,Nat.lt_of_lt_of_le h.d1.2.2 q.kp.size⟩,⟨inP.new h.d2.2.2 h.d2.1 q.rb,h.d2.2.1,Nat.lt_of_lt_of_le h.d2.2.2 q.kp.size⟩,⟨inP.new (lt_of_block h.bx) h.d3.1 q.rb,h.d3.2⟩,(q.kp.block bb (lt_of_block h.bx) (hk _ h.d3.1 h.d3.2)).trans h.bx,h.bel.trans (q.kp.below h.bel.size (fun b hb=>inP.ge h.pr hb))⟩
 ·injection e with e;injection e with e _ _;rw[←e];exact hk _ h.d1.1 h.d1.2.1
 ·injection e with e;injection e with e _ _;rw[←e];exact hk _ h.d2.1 h.d2.2.1
end
end Go.Proofs.YtdgoilkgplnhfaaGreat

