/-
  States met, in memory: a map from states to places, a row of states, a row of places. Of the program its types alone: no condition.
-/
import Derived.Test.YtdgoilkgplnhfaaGreatJ14
import Derived.Deep.WholeRow
import Derived.Laws.CopyOwn
import Derived.Test.YtdgoilkgplnhfaaGreatJ13
import Derived.Test.YtdgoilkgplnhfaaGreatJ05
import Derived.Test.YtdgoilkgplnhfaaGreatJ06
import Derived.Lib.ConvBytes
import Derived.Deep.RegionHeld3
import Derived.Deep.RegionWith
import Derived.Deep.DeepCutAuto
import Derived.Shelf.Abstract
import Derived.Test.YtdgoilkgplnhfaaGreatJ07
namespace Go.Proofs.YtdgoilkgplnhfaaGreat
open Go.RowKit Go.Lib Go.Maps
def oC {S:Type} (val:S→Array Value) (St:List S):List Value:=St.flatMap fun s=>(val s).toList
section
variable {S:Type} {val:S→Array Value}
theorem qmy (St:List S) (x:S):oC val (St++[x])=oC val St++(val x).toList:=by simp[oC]
theorem qfn {K:Nat}:∀(St:List S),(∀s∈St,(val s).size=K)→∀i (h:i<St.length) j (_:j<K),(oC val St)[i*K+j]? =(val St[i])[j]?
 |[],_,i,h,_,_=>by simp at h
 |s::St,hs,0,_,j,hj=>by
  have h0:=hs s List.mem_cons_self;unfold oC;rw[List.flatMap_cons,Nat.zero_mul,Nat.zero_add,List.getElem?_append_left (by rw[Array.length_toList,h0];exact hj)];simp
 |s::St,hs,i+1,h,j,hj=>by
  have h0:=hs s List.mem_cons_self;have ih:=qfn St (fun t ht=>hs t (List.mem_cons_of_mem _ ht)) i (by simp at h;omega) j hj;unfold oC at ih ⊢;rw[List.flatMap_cons,Nat.succ_mul,List.getElem?_append_right (by rw[Array.length_toList,h0];omega),Array.length_toList,h0,show i*K+K+j-K=i*K+j by omega,ih];rfl
theorem qi8 {K:Nat}:∀(St:List S),(∀s∈St,(val s).size=K)→(oC val St).length=St.length*K
 |[],_=>by simp[oC]
 |s::St,hs=>by
  have ih:=qi8 St (fun t ht=>hs t (List.mem_cons_of_mem _ ht));unfold oC at ih ⊢;rw[List.flatMap_cons,List.length_append,ih,Array.length_toList,hs s List.mem_cons_self,List.length_cons,Nat.succ_mul];omega
structure XM (T K:Nat) {S:Type} (val:S→Array Value) (w0:World) (mb:Nat) (ks:List Lit) (sv xv:Value) (St:List S) (NX:List Nat) (w:World):Prop where
 map:qc4 T w mb ks
 o1:w.ownsRow w0.heap.size T K sv St.length (oC val St)
 o2:qan w w0.heap.size xv NX
 ap:∀b,sv.ownBlock=some b→¬xv.ownBlock=some b
 mge:w0.heap.size≤mb
 bel:Below w0.heap.size w0 w
variable {T K:Nat} {w0 w w':World} {mb:Nat} {ks:List Lit} {sv xv v':Value} {St:List S} {NX:List Nat}
theorem XM.below (h:XM T K val w0 mb ks sv xv St NX w) (x:Below w.heap.size w w'):XM T K val w0 mb ks sv xv St NX w':=
 ⟨h.map.below x,own_below h.o1 x,own_below h.o2 x,h.ap,h.mge,bt h.bel x (Nat.le_refl _)⟩
theorem XM.put (h:XM T K val w0 mb ks sv xv St NX w) {kl:Lit} {D:DataW Unit} (hm:kl∉ks) (hk:WideAt.IsKeyLit kl) (hh:∀kl,Maps.has D kl=true↔kl∈ks) (ha:∀i (h:i<ks.length),D.atKey ks[i] (.lit (.int .i64 0))=.lit (.int .i64 (i:Int)))
 (ho:w.ownsMap Tryz.prog T (plainElem Tryz.prog 3) mb ks.length D) (h1:w'.ownsMap Tryz.prog T (plainElem Tryz.prog 3) mb (ks.length+1) (D.put kl (.lit (.int .i64 (ks.length:Int))))) (t4:w.mapTurned w' mb):XM T K val w0 mb (ks++[kl]) sv xv St NX w':=by
 have k4:Kept (fun b=>b=mb) w w':=(qae t4.grown).mono (fun b hb=>by injection hb with hb;exact hb.symm);exact⟨qc4.put hk hm ho.isMap hh ha h1,qai h.o1 k4 (fun b hb e=>qba h.map h.o1 (by rw[←e];exact hb)),qai h.o2 k4 (fun b hb e=>qba h.map h.o2 (by rw[←e];exact hb)),h.ap,h.mge,h.bel.trans (k4.below h.bel.size (fun i hi=>by have:=h.mge;omega))⟩
theorem qfo {w w6:World} {v v':Value} (g2:qbb w w6 v v'):∃F:Nat→Prop,Kept F w w6∧(∀b,F b→v.ownBlock=some b):=by
 rcases g2 with⟨q,a,b,c⟩|⟨a,b⟩
 ·exact⟨fun b=>some q=some b,qae c,fun b hb=>a.trans hb⟩
 ·exact⟨fun _=>False,Kept.of_below (qad a),fun b hb=>hb.elim⟩
theorem qfp {w w6:World} {v v' u:Value} {base e size n:Nat} {xs:List Value} (g2:qbb w w6 v v') (hu:w.ownsRow base e size u n xs) (hap:∀b,v.ownBlock=some b→¬u.ownBlock=some b):∀b,v'.ownBlock=some b→¬u.ownBlock=some b:=fun b hb hv=>by
 rcases g2 with⟨q,a,c,_⟩|⟨_,c⟩
 ·exact hap b (by rw[a,←c];exact hb) hv
 ·have h1:=c b hb
  have h2:=(World.ownsRow.lt hu b hv).2;omega
theorem XM.appS (h:XM T K val w0 mb ks sv xv St NX w) (x:S) (g1:w'.ownsRow w0.heap.size T K v' (St.length+1) (oC val St++(val x).toList)) (g2:qbb w w' sv v'):XM T K val w0 mb ks v' xv (St++[x]) NX w':=by
 obtain⟨F,k6,hF⟩:=qfo g2;refine⟨h.map.kept k6 (fun hf=>qba h.map h.o1 (hF _ hf)),?_,qai h.o2 k6 (fun b hb hf=>h.ap b (hF b hf) hb),qfp g2 h.o2 h.ap,h.mge,h.bel.trans (k6.below h.bel.size (fun i hf=>(World.ownsRow.lt h.o1 i (hF i hf)).1))⟩;rw[qmy,List.length_append,List.length_singleton];exact g1
theorem XM.appX (h:XM T K val w0 mb ks sv xv St NX w) (n:Nat) (g1:w'.ownsRow w0.heap.size 3 1 v' (NX.length+1) (qab NX++[.int .i64 (n:Nat)])) (g2:qbb w w' xv v'):XM T K val w0 mb ks sv v' St (NX++[n]) w':=by
 obtain⟨F,k6,hF⟩:=qfo g2;have o2:w.ownsRow w0.heap.size 3 1 xv NX.length (qab NX):=h.o2;refine⟨h.map.kept k6 (fun hf=>qba h.map o2 (hF _ hf)),qai h.o1 k6 (fun b hb hf=>h.ap b hb (hF b hf)),?_,fun b hb hv=>qfp g2 h.o1 (fun b hb hv=>h.ap b hv hb) b hv hb,h.mge,h.bel.trans (k6.below h.bel.size (fun i hf=>(World.ownsRow.lt o2 i (hF i hf)).1))⟩;unfold qan;rw[qa1,List.length_append,List.length_singleton];exact g1
theorem XM.cells (h:XM T K val w0 mb ks sv xv St NX w) (hs:∀s∈St,(val s).size=K) {i:Nat} (hi:i<St.length):∃g cap,sv=.slice (some ⟨g,0,none⟩) St.length cap∧∀j v,(val St[i])[j]? =some v→w.cell? ((⟨g,i*K,none⟩:Addr).add j)=some v:=by
 rcases h.o1.2 with⟨_,e1⟩|⟨g,cap,cur,e1,hb,hg,hnc,hcm,hcs,htake⟩
 ·omega
 ·refine⟨g,cap,e1,fun j v hv=>?_⟩
  have hj:j<K:=by
   have h1:=hs _ (List.getElem_mem hi);apply Nat.lt_of_not_le;intro hle;rw[Array.getElem?_eq_none (by rw[h1];exact hle)] at hv;cases hv
  have h2:=qfn St hs i hi j hj;rw[hv,←htake,List.getElem?_take,if_pos (qcd hi hj)] at h2;have e2:(⟨g,i*K,none⟩:Addr).add j=⟨g,i*K+j,none⟩:=by unfold Addr.add;split<;>simp_all
  rw[e2,cell_of_row _ _ _ _ _ _ hg];simpa using h2
end
set_option maxRecDepth 100000 in
set_option maxHeartbeats 4000000 in
theorem qk8 (N:Nat) (c0 c1:Value) (look:Nat→Array Value) (lit:Nat→Lit) (w:World) (hN:N≤4294967296) (hk:∀i,i<N→keyOf Tryz.prog 101 (.agg (look i))=some (lit i)) (hls:∀i,i<N→(look i).size=2) (hla:∀i,i<N→(look i).all (·.oneCell')=true) (hkl:∀i,i<N→WideAt.IsKeyLit (lit i))
 (hc:∀i,i<N→∀W,Below w.heap.size w W→Calls Tryz.prog 55 #[.int .i64 (i:Nat),c0,c1] W fun e w'=>e=.returned (.agg (look i))∧Below W.heap.size W w'):
 Calls Tryz.prog 54 #[.int .i64 (N:Nat),.func (.func 55) #[] #[c0,c1]] w fun e w'=>(∃v1 v2,e=.returned (.tuple #[v1,v2])∧∃num fst,qbd w.heap.size lit N v1 v2 num fst w')∧Below w.heap.size w w':=by
 obtain⟨i3,hi3,hz30,hz31,hz32⟩:=info_parts Tryz.info3n;have hz0:∀W,(zeroValue 3).run Tryz.prog W=.ok (.int .i64 0) W:=fun W=>Tryz.zeroValue3 W
 have hmm:∀W:World,(Instr.makeMap 143 none).run Tryz.prog W=.ok (.map (some W.heap.size)) (W.alloc (.map #[] 0)):=fun W=>rfl
 have HC:=qaa hc;have HK:=qaa hk;have HKL:=qaa hkl;have HLS:=qaa hls;have HLA:=qaa hla;obtain⟨hzv,hsz⟩:=zero_of_info Tryz.info101;obtain⟨z,hz⟩:∃z,z=(#[.int .i64 0,.int .i64 0]:Array Value):=⟨_,rfl⟩;have hzs:z.size=2:=by rw[hz];simp
 rw[←hz] at hzv;have HZS:=qaa hzs;have HSZ:=qaa hsz;clear hz hzs hsz hls hla;clear hc hk hkl;have S0:=qaa (fun w2 h1 h2=>NmS.start 101 w lit N w2 h1 h2);go_enter Tryz.func54,Tryz.ntmps54;go_wp2_with (at_make;refine wpList_make_full _ rfl (.tmp 12) (.tmp 12) 22 rfl w.heap.size 3 i3 (.int .i64 0) 1 Tryz.underlying22 hi3 hz30 hz31 .i64 .i64 _ _ N rfl rfl rfl rfl (by rw[hz32];omega) (by unfold maxLen;omega) (by simp) ?_;intro w2 h1 h2;have S1:=qaa (S0.out w2 h1 h2);clear h1 h2);go_loopg [5,15] (N+1) (fun g v2 x wr=>∃(num fst:List Nat),x=.int .i64 (num.length:Nat)∧Hid (NmS 101 w lit N w.heap.size (.slice (some ⟨w.heap.size+1,0,none⟩) N N) v2 num fst wr)∧N-num.length<g)
 case atStart=>exact⟨[],[],rfl,S1,by simp⟩
 case round=>
  obtain⟨num,fst,rfl,S,hg⟩:=hrel;have HG:=qaa hg;clear hg S1 S0;have hle:=S.out.le;obtain⟨a2,k2,hv2,_⟩:=qag S.out.o2;subst hv2;by_cases hi:num.length<N
  ·have hi':(num.length:Int)<(N:Int):=by omega
   have H1:=qaa (HC.out num.length hi wr S.out.bel);go_wp2_with (fail);refine H1.out.mono ?_;rintro e w3 ⟨rfl,x3⟩;clear H1;obtain⟨m,hmm2⟩:∃m,m=look num.length:=⟨_,rfl⟩;have HI:Hid ((Tryz.prog.info? 101).map (·.size)=some m.size):=by unfold Hid;rw[HSZ.out,hmm2,HLS.out _ hi]
   have HZ2:Hid (z.size=m.size):=by unfold Hid;rw[HZS.out,hmm2,HLS.out _ hi]
   have HAL:Hid (m.all (·.oneCell')=true):=by unfold Hid;rw[hmm2];exact HLA.out _ hi
   have HK0:=HK.out num.length hi;rw[←hmm2] at HK0 ⊢;have HBZ:=qaa (heap_alloc_new w3 (.cells z 101));have HBM:=heap_alloc_new w3 (.cells m 101);have y3:Below w3.heap.size w3 (w3.alloc (.cells m 101)):=al (Below.refl _ _) _;have S4:=S.out.below (bt x3 y3 (Nat.le_refl _));have bb3:∃bb,bb=w3.heap.size:=⟨_,rfl⟩;clear hmm2 x3 y3;go_upto_region 7 with(refine wpList_store_row rfl 101 (.tmp 8) (.tmp 20) rfl w3.heap.size m rfl rfl 101 z HBZ.out HI.out HZ2.out HAL.out ?_;rw[World.setRow_alloc_new])
   generalize w3.alloc (.cells m 101)=w5 at *;obtain⟨bb,hbb⟩:=bb3;rw[←hbb] at HBM ⊢;clear hbb HBZ;have HBM:=qaa HBM;rename World=>w3
   have S3:=qaa S4;clear S4;obtain⟨D,hown,hh,ha⟩:=S3.out.map;have HK1:=qaa HK0;clear HK0;have HOWN:=qaa hown;have HA:=qaa ha;have hfl:fst.length≤num.length:=by
    have h:=S3.out.nf;exact qax num.length fst.length (gN fst) h.fstlt (fun i h1 j h2 e=>by rw[←h.numfst i h1,←h.numfst j h2,e])
   by_cases hm:lit num.length∈fst.map lit
   ·have hhas:Maps.has D (lit num.length)=true:=(hh _).2 hm
    have HHIT:Hid (∀c:Int,D.atKey (lit num.length) (.lit (.int .i64 0))=.lit (.int .i64 c)→∃n,n<fst.length∧lit (gN fst n)=lit num.length∧c=(n:Int)):=fun c hc=>by
     obtain⟨n,hn,e,rfl⟩:=qbz HA.out hc hm;rw[List.length_map] at hn;refine⟨n,hn,?_,rfl⟩;rw[←e,List.getElem_map,qah hn]
    obtain⟨⟨u1,q1⟩,q2⟩:=S3.out.slot hi;have HST:=qaa (fun n hn he=>S3.out.hit (n:=n) hi hn he);go_wp2_with (first|(refine wpList_load_row rfl 101 (.tmp 8) rfl bb rfl 101 m (0,0) _ HBM.out Tryz.underlying101 rfl HI.out ?_)|(at_lookup;refine wpList_lookup_own_ok_int _ rfl _ _ 143 rfl 101 3 .i64 qbg Tryz.underlying143 Tryz.underlying3 (hz0 _) w.heap.size _ D rfl HOWN.out _ _ rfl HK1.out ?_;intro c hat hwc;obtain⟨n,hn,hne,rfl⟩:=HHIT.out c hat;have S4:=qaa (HST.out n hn hne);clear hat hwc hn hne));go_roundg (N-(num.length+1)+1)
    case measure=>have:=HG.out;omega
    case rel=>exact⟨num++[n],fst,by simp,S4,by simp⟩
   ·have hhas:Maps.has D (lit num.length)=false:=by
     cases hx:Maps.has D (lit num.length) with
     |false=>rfl
     |true=>exact absurd ((hh _).1 hx) hm
    have HPL:Hid (plainElem (H:=Unit) Tryz.prog 3 (.int .i64 (fst.length:Int))=some (.lit (.int .i64 (fst.length:Int)),[])):=plainElem_int Tryz.underlying3 (by simp[Lit.wf,IntKind.min,IntKind.max,IntKind.signed,IntKind.bits];omega);have HFN:Hid ((fst.map lit).length<maxLen):=by unfold Hid maxLen;rw[List.length_map];omega
    have HPUT:=qaa (fun(w4:World) h1 (t4:w3.mapTurned w4 w.heap.size)=>S3.out.put (w':=w4) hm (HKL.out _ hi) hh ha HOWN.out h1 t4);go_wp2_with (first
     |(refine wpList_load_row rfl 101 (.tmp 8) rfl bb rfl 101 m (0,0) _ HBM.out Tryz.underlying101 rfl HI.out ?_)
     |(at_lookup;refine wpList_lookup_own_ok_int _ rfl _ _ 143 rfl 101 3 .i64 qbg Tryz.underlying143 Tryz.underlying3 (hz0 _) w.heap.size _ D rfl HOWN.out _ _ rfl HK1.out ?_;intro c hat hwc;clear hat hwc)
     |(at_mapUpdate;refine wpList_mapUpdate_in _ rfl _ _ _ 143 rfl 101 3 qbg Tryz.underlying143 _ w.heap.size _ D rfl HOWN.out HFN.out _ _ _ rfl rfl HK1.out _ [] HPL.out ?_;intro w4 h4 t4;have S4:=qaa (HPUT.out w4 h4 t4);have O5:=qaa S4.out.o5;have HN5:=qaa (qbi w4 num.length 3);have HS5:Hid (w.heap.size≤(w4.alloc (.cells #[.int .i64 (num.length:Nat)] 3)).heap.size):=S4.out.s5;clear h4 t4)
     |(at_builtin;refine qac rfl (.tmp 34) (.tmp 36) 22 rfl w.heap.size 3 i3 (.int .i64 0) 1 8 Tryz.underlying22 hi3 hz30 hz31 hz32 rfl (by decide) _ fst.length (qab fst) rfl O5.out ⟨w4.heap.size,0,none⟩ 1 1 [.int .i64 (num.length:Nat)] rfl rfl HN5.out (by simp[Value.oneCell']) (by decide) (by unfold maxLen;omega) (by omega) HS5.out ?_;intro v6 w6 g1 g2;obtain⟨⟨⟨u6,q1⟩,q2⟩,S6⟩:=S4.out.app hi g1 g2;have S6:=qaa S6;clear g1 g2))
    go_roundg (N-(num.length+1)+1)
    case measure=>have:=HG.out;omega
    case rel=>exact⟨num++[fst.length],fst++[num.length],by simp,S6,by simp⟩
  ·have hi':¬(num.length:Int)<(N:Int):=by omega
   go_wp2;go_ret2;refine⟨⟨_,_,rfl,num,fst,?_⟩,S.out.bel⟩;have e:num.length=N:=by omega
   have h1:=S.out.o1;rw[e,Nat.sub_self,List.replicate_zero,List.append_nil] at h1;exact⟨h1,S.out.o2,S.out.ap,e,by have:=S.out.nf;rw[e] at this;exact this⟩
end Go.Proofs.YtdgoilkgplnhfaaGreat
namespace Go.Proofs.YtdgoilkgplnhfaaGreat
open Go.RowKit Go.Lib
def RdS (w:World) (rb:Nat) (s r:By):Prop:=∃q,s=q++r∧qeq w rb q r
theorem RdS.below {w w':World} {rb:Nat} {s r:By} (h:RdS w rb s r) (x:Below w.heap.size w w'):RdS w' rb s r:=by
 obtain⟨q,h1,h2⟩:=h;exact⟨q,h1,h2.below x⟩
theorem RdS.kept {F:Nat→Prop} {w w':World} {rb:Nat} {s r:By} (h:RdS w rb s r) (x:Kept F w w') (hF:¬F rb):RdS w' rb s r:=by
 obtain⟨q,h1,h2⟩:=h;exact⟨q,h1,h2.kept x hF⟩
theorem RdS.lt {w:World} {rb:Nat} {s r:By} (h:RdS w rb s r):rb<w.heap.size:=by
 obtain⟨q,h1,h2⟩:=h;exact lt_of_block h2
theorem qn4 (rb:Nat) (s q r:By) (w:World) (hl:s.length≤140737488351232) (hq:q.length≤8) (h:RdS w rb s r):
 Calls Tryz.prog 91 #[.pointer (some ⟨rb,0,none⟩),.string ⟨q.toArray⟩] w fun e w'=>e=.returned (.bool (q.isPrefixOf r))∧RdS w' rb s (if q.isPrefixOf r=true then r.drop q.length else r)∧Kept (fun k=>k=rb) w w':=by
 obtain⟨p,rfl,h2⟩:=h;refine(qkv rb p q r w hl hq h2).mono fun e w' ⟨h3,h4,h5,h6⟩=>⟨h3,?_,h6⟩
 cases hb:q.isPrefixOf r with
 |true=>
  rw[if_pos rfl];refine⟨p++q,?_,h4 hb⟩;obtain⟨t,rfl⟩:=List.isPrefixOf_iff_prefix.1 hb;simp
 |false=>rw[if_neg (by decide)];exact⟨p,rfl,h5 hb⟩
def qpg (rb:Nat) (s:By) (x:Except By (UInt8×By)) (e:Ending) (w':World):Prop:=match x with
 |.ok (c,t)=>e=.returned (.tuple #[.int .i64 (c.toNat:Nat),.bool true])∧RdS w' rb s t
 |.error t=>e=.returned (.tuple #[.int .i64 0,.bool false])∧RdS w' rb s t
theorem qn5 (rb:Nat) (s r:By) (least:Nat) (w:World) (hl:s.length≤140737488351232) (h:RdS w rb s r):
 Calls Tryz.prog 93 #[.pointer (some ⟨rb,0,none⟩),.int .i64 (least:Nat)] w fun e w'=>qpg rb s (tkL least r) e w'∧Kept (fun k=>k=rb) w w':=by
 obtain⟨p,rfl,h2⟩:=h;cases r with
 |nil=>exact(qkw rb p least w h2).mono fun e w' ⟨h3,h4,h5⟩=>⟨⟨h3,p,rfl,h4⟩,h5⟩
 |cons c r=>
  refine(qkx rb p r c least w hl h2).mono fun e w' ⟨h3,h4⟩=>⟨?_,h4⟩
  have e0:tkL least (c::r)=if least≤c.toNat∧c.toNat≤126 then .ok (c,r) else .error (c::r):=rfl
  rw[e0];rcases h3 with⟨h5,h6,h7,h8⟩|⟨h5,h7,h8⟩
  ·rw[if_pos ⟨by omega,h6⟩]
   exact⟨h7,p++[c],by simp,h8⟩
  ·rw[if_neg (fun h=>h5 ⟨by omega,h.2⟩)]
   exact⟨h7,p,rfl,h8⟩
theorem qpg.ok {rb:Nat} {s t:By} {x:Except By (UInt8×By)} {c:UInt8} {e:Ending} {w':World} (h:qpg rb s x e w') (hx:x=.ok (c,t)):e=.returned (.tuple #[.int .i64 (c.toNat:Nat),.bool true])∧RdS w' rb s t:=by subst hx;exact h
def ZAt (w:World) (ao:Option Addr) (L:List Int):Prop:=L=[]∨∃b off,ao=some ⟨b,off,none⟩∧b<w.heap.size∧∀i (h:i<L.length),w.cell? ⟨b,off+i,none⟩=some (.int .i64 L[i])
theorem ZAt.below {w w':World} {ao:Option Addr} {L:List Int} (h:ZAt w ao L) (hb:Below w.heap.size w w'):ZAt w' ao L:=by
 rcases h with h|⟨b,off,h1,h2,h3⟩
 ·exact .inl h
 ·exact .inr ⟨b,off,h1,Nat.lt_of_lt_of_le h2 hb.size,fun i hi=>(hb.cell (p:=⟨b,off+i,none⟩) h2).trans (h3 i hi)⟩
theorem ZAt.get {w:World} {ao:Option Addr} {L:List Int} (h:ZAt w ao L) {i:Nat} (hi:i<L.length):∃b off,ao=some ⟨b,off,none⟩∧w.cell? ⟨b,off+i,none⟩=some (.int .i64 L[i]):=by
 rcases h with h|⟨b,off,h1,h2,h3⟩
 ·rw[h] at hi;cases hi
 ·exact⟨b,off,h1,h3 i hi⟩
set_option maxRecDepth 100000 in
set_option maxHeartbeats 2000000 in
theorem qh7 (fv:Value) (cl:Nat) (caps:List Value) (hfv:fv=.func (.func cl) #[] caps.toArray) (he:∀args w,(callFunc cl args).run Tryz.prog w=.ok (.enter cl args) w) (p:Int→Bool) (ao:Option Addr) (cap:Nat) (L:List Int) (w:World) (hl:L.length≤140737488351232) (hat:ZAt w ao L) (hc:∀z∈L,∀W,Below w.heap.size w W→Calls Tryz.prog cl (.int .i64 z::caps).toArray W fun e w'=>e=.returned (.bool (p z))∧Below W.heap.size W w'):
 Calls Tryz.prog 110 #[.slice ao L.length cap,fv] w fun e w'=>(∃i:Int,e=.returned (.int .i64 i)∧(0≤i↔∃x,x∈L∧p x=true)∧ -1≤i)∧Below w.heap.size w w':=by
 subst hfv;have HAT:=qaa hat;have HC:=qaa hc;clear hat hc;go_enter Tryz.func110,Tryz.ntmps110;go_wp2;go_loopg [8] (L.length+1) (fun g x wr=>∃k:Nat,x=.int .i64 (k:Nat)∧k≤L.length∧Hid ((L.take k).any p=false)∧Hid (Below w.heap.size w wr)∧L.length-k<g)
 case atStart=>exact⟨0,rfl,by omega,by simp[Hid],qaa (Below.refl _ _),by omega⟩
 case round=>
  obtain⟨k,rfl,hk1,HA,XB,hg⟩:=hrel;have HG:=qaa hg;clear hg;by_cases hk:k<L.length
  ·have hk':(k:Int)<(L.length:Int):=by omega
   obtain⟨b,off,rfl,c0⟩:=(HAT.out.below XB.out).get hk;obtain⟨z,hz⟩:∃z,L[k]=z:=⟨_,rfl⟩;have H1:=qaa (HC.out L[k] (List.getElem_mem hk) wr XB.out);have HZ:Hid ((L.take (k+1)).any p=p z):=by unfold Hid;rw[List.take_succ_eq_append_getElem hk,List.any_append,HA.out,hz];simp
   have HZ2:Hid (z∈L):=by unfold Hid;rw[←hz];exact List.getElem_mem hk
   rw[hz] at c0 H1;clear hz;go_wp2_with (fail);refine H1.out.mono ?_;rintro e w3 ⟨rfl,x3⟩;have X3:=qaa (bt XB.out x3 (Nat.le_refl _));clear H1 x3 c0;cases hp:p z with
   |true=>
    have HP:=qaa hp;go_wp2;go_ret;exact⟨⟨_,rfl,⟨fun _=>⟨z,HZ2.out,HP.out⟩,fun _=>by omega⟩,by omega⟩,X3.out⟩
   |false=>
    have HZ3:Hid ((L.take (k+1)).any p=false):=HZ.out.trans hp;go_wp2;go_roundg (L.length-(k+1)+1)
    case measure=>have:=HG.out;omega
    case rel=>exact⟨k+1,by first|rfl|go_num|(congr 1;omega),by omega,HZ3,X3,by omega⟩
  ·have hk':¬(k:Int)<(L.length:Int):=by omega
   obtain rfl:k=L.length:=by omega
   have HE:Hid (L.any p=false):=by have:=HA.out;rwa [List.take_length] at this
   go_wp2;go_ret;exact⟨⟨-1,rfl,⟨fun h=>by omega,fun h=>by obtain⟨x,h1,h2⟩:=h;have h3:=List.any_eq_true.2 ⟨x,h1,h2⟩;rw[HE.out] at h3;cases h3⟩,by omega⟩,XB.out⟩
set_option maxRecDepth 100000 in
theorem qda (fv:Value) (cl:Nat) (caps:List Value) (hfv:fv=.func (.func cl) #[] caps.toArray) (he:∀args w,(callFunc cl args).run Tryz.prog w=.ok (.enter cl args) w) (p:Int→Bool) (ao:Option Addr) (cap:Nat) (L:List Int) (w:World) (hl:L.length≤140737488351232) (hat:ZAt w ao L) (hc:∀z∈L,∀W,Below w.heap.size w W→Calls Tryz.prog cl (.int .i64 z::caps).toArray W fun e w'=>e=.returned (.bool (p z))∧Below W.heap.size W w'):
 Calls Tryz.prog 76 #[.slice ao L.length cap,fv] w fun e w'=>e=.returned (.bool (L.any p))∧Below w.heap.size w w':=by
 have H1:=qaa (qh7 fv cl caps hfv he p ao cap L w hl hat hc);clear hc hat hfv he;go_enter Tryz.func76,Tryz.ntmps76;go_wp2_with (fail);refine H1.out.mono ?_;rintro e w2 ⟨⟨i,rfl,hi,_⟩,x2⟩;have X2:=qaa x2;clear H1 x2;by_cases h0:0≤i
 ·have HE:Hid (L.any p=true):=List.any_eq_true.2 (hi.1 h0)
  clear hi;go_wp2;go_ret;exact⟨by rw[HE.out];first|rfl|simp_all,X2.out⟩
 ·have HE:Hid (L.any p=false):=by
   unfold Hid;cases hx:L.any p with
   |false=>rfl
   |true=>exact absurd (hi.2 (List.any_eq_true.1 hx)) h0
  clear hi;go_wp2;go_ret;exact⟨by rw[HE.out];first|rfl|simp_all,X2.out⟩
def qdg (n:Nat) (z:Int):Bool:=decide (z<0∨(n:Int)≤z)
set_option maxRecDepth 100000 in
theorem qh8 (oa:Option Addr) (n oc xb:Nat) (z:Int) (w:World) (hc:w.cell? ⟨xb,2,none⟩=some (.slice oa n oc)):
 Calls Tryz.prog 74 #[.int .i64 z,.pointer (some ⟨xb,0,none⟩)] w fun e w'=>e=.returned (.bool (qdg n z))∧Below w.heap.size w w':=by
 by_cases h1:z<0
 ·have HE:Hid (qdg n z=true):=decide_eq_true (.inl h1)
  go_enter Tryz.func74,Tryz.ntmps74;go_wp2;go_ret;exact⟨by rw[HE.out];first|rfl|simp_all,Below.refl _ _⟩
 ·by_cases h2:(n:Int)≤z
  ·have HE:Hid (qdg n z=true):=decide_eq_true (.inr h2)
   go_enter Tryz.func74,Tryz.ntmps74;go_wp2;go_ret;exact⟨by rw[HE.out];first|rfl|simp_all,Below.refl _ _⟩
  ·have HE:Hid (qdg n z=false):=decide_eq_false (fun h=>by omega)
   go_enter Tryz.func74,Tryz.ntmps74;go_wp2;go_ret;exact⟨by rw[HE.out];first|rfl|simp_all,Below.refl _ _⟩
def nlB (z:Int):Bool:= !decide (Lab z)
set_option maxRecDepth 100000 in
theorem qh9 (z:Int) (w:World):Calls Tryz.prog 75 #[.int .i64 z] w fun e w'=>e=.returned (.bool (nlB z))∧Below w.heap.size w w':=by
 have H1:=qaa (qc1 z w);have HE:Hid (nlB z= !decide (Lab z)):=rfl;generalize decide (Lab z)=b at *;generalize nlB z=c at *;go_enter Tryz.func75,Tryz.ntmps75;go_wp2_with (fail);refine H1.out.mono ?_;rintro e w2 ⟨rfl,hw⟩;have hw:=hw.symm;subst hw;go_wp2;go_ret;exact⟨by rw[HE.out];rfl,Below.refl _ _⟩
def mxL (L:List Nat):Nat:=L.foldl max 0
theorem qk9 (L:List Nat) (x:Nat):mxL (L++[x])=max (mxL L) x:=by simp[mxL,List.foldl_append]
set_option maxRecDepth 100000 in
set_option maxHeartbeats 2000000 in
theorem qmz (xb cap:Nat) (L:List Nat) (w:World) (h0:0<L.length) (hl:L.length≤140737488351232) (hc:∀i (h:i<L.length),w.cell? ⟨xb,i,none⟩=some (.int .u8 (L[i]:Int))):
 Calls Tryz.prog 73 #[.slice (some ⟨xb,0,none⟩) L.length cap] w fun e w'=>e=.returned (.int .u8 ((mxL L:Nat):Int))∧w'=w:=by
 have c0:=hc 0 h0;have HC:=qaa hc;have h0':(0:Int)<(L.length:Int):=by omega
 have h1':¬(L.length:Int)<1:=by omega
 have HM0:Hid (mxL (L.take 1)=L[0]):=by
  unfold Hid;rw[List.take_succ_eq_append_getElem h0,List.take_zero,List.nil_append];simp[mxL]
 clear hc;go_enter Tryz.func73,Tryz.ntmps73;go_wp2;go_loopg [3,4] (L.length+1) (fun g m x wr=>∃k:Nat,x=.int .i64 (k:Nat)∧k≤L.length∧m=.int .u8 ((mxL (L.take k):Nat):Int)∧wr=w∧L.length-k<g)
 case atStart=>exact⟨1,rfl,by omega,by rw[HM0.out],rfl,by omega⟩
 case round=>
  obtain⟨k,rfl,hk1,rfl,rfl,hg⟩:=hrel;have HG:=qaa hg;clear hg c0;by_cases hk:k<L.length
  ·have hk':(k:Int)<(L.length:Int):=by omega
   have c1:=HC.out k hk;have HM:Hid (mxL (L.take (k+1))=max (mxL (L.take k)) L[k]):=by unfold Hid;rw[List.take_succ_eq_append_getElem hk,qk9]
   generalize L[k]=y at *;generalize mxL (L.take k)=m at *;go_wp2
   all_goals
    go_roundg (L.length-(k+1)+1)
    case measure=>have:=HG.out;omega
    case rel=>exact⟨k+1,by first|rfl|go_num|(congr 1;omega),by omega,by rw[HM.out];first|rfl|(congr 1;omega),by first|rfl|trivial,by omega⟩
  ·have hk':¬(k:Int)<(L.length:Int):=by omega
   obtain rfl:k=L.length:=by omega
   have HE:Hid (mxL (L.take L.length)=mxL L):=by unfold Hid;rw[List.take_length]
   rw[HE.out];go_wp2;go_ret;exact⟨rfl,rfl⟩
def ntL (bs:By):List Nat:=bs.map UInt8.toNat
def qcr (bs:By) (NZ OZ:List Int):Prop:=bs.length=256∧1≤OZ.length∧OZ.length≤65536∧NZ.length=OZ.length*(mxL (ntL bs)+1)∧NZ.any (qdg OZ.length)=false∧OZ.any nlB=false
def qdm (P:Prop) (e:Ending):Prop:=∃b:Bool,e=.returned (.bool b)∧(b=true↔P)
theorem qla:∀args w,(callFunc 74 args).run Tryz.prog w=.ok (.enter 74 args) w:=enters_of Tryz.func74 (by kernel_rfl) rfl
theorem qlb:∀args w,(callFunc 75 args).run Tryz.prog w=.ok (.enter 75 args) w:=enters_of Tryz.func75 (by kernel_rfl) rfl
theorem qi9 (bs:By):mxL (ntL bs)<256:=by
 have key:∀(L:List Nat) (a:Nat),a<256→(∀x∈L,x<256)→L.foldl max a<256:=by
  intro L
  induction L with
  |nil=>intro a ha _;exact ha
  |cons x L ih=>
   intro a ha hx;rw[List.foldl_cons];refine ih _ ?_ (fun y hy=>hx y (List.mem_cons_of_mem _ hy));have:=hx x List.mem_cons_self;omega
 refine key _ 0 (by decide) (fun x hx=>?_);obtain⟨y,_,rfl⟩:=List.mem_map.1 hx;exact y.toNat_lt
theorem qgv (w1:World) (s:ByteArray):Below w1.heap.size w1 (Lib.bytesWorld w1.drew 5 s):=
 ⟨rfl,rfl,rfl,by rw[Lib.bytesWorld_size];exact Nat.le_succ _,fun b hb=>Lib.bytesWorld_at_old w1.drew 5 s b hb⟩
set_option maxRecDepth 100000 in
set_option maxHeartbeats 4000000 in
theorem qja (bs:By) (na oa:Option Addr) (nc oc:Nat) (NZ OZ:List Int) (w:World) (hnl:NZ.length≤140737488351232) (hol:OZ.length≤140737488351232) (hnx:ZAt w na NZ) (hou:ZAt w oa OZ):
 Calls Tryz.prog 33 #[auV bs na NZ.length nc oa OZ.length oc] w fun e w'=>qdm (qcr bs NZ OZ) e∧Below w.heap.size w w':=by
 have hmf:∀(fn:Fn) (first cap:Array Value) (w:World),(Instr.makeFunc fn first cap).run Tryz.prog w=.ok (.func fn first cap) w:=fun _ _ _ _=>rfl
 have X1:=qaa (al (Below.refl w.heap.size w) (.cells #[.string ⟨bs.toArray⟩,.slice na NZ.length nc,.slice oa OZ.length oc] 24));have B1:=qaa (heap_alloc_new w (.cells #[.string ⟨bs.toArray⟩,.slice na NZ.length nc,.slice oa OZ.length oc] 24));have HNX:=qaa hnx;have HOU:=qaa hou;clear hnx hou;unfold auV;by_cases h1:bs.length=256
 ·have h1':(bs.length:Int)=256:=by omega
  by_cases h2:(OZ.length:Int)<1
  ·have HN:Hid (¬qcr bs NZ OZ):=fun h=>by have:=h.2.1;omega
   go_enter Tryz.func33,Tryz.ntmps33;go_wp2;go_ret;exact⟨⟨false,rfl,⟨fun h=>(by cases h),fun h=>absurd h HN.out⟩⟩,X1.out⟩
  ·by_cases h3:(65536:Int)<(OZ.length:Int)
   ·have HN:Hid (¬qcr bs NZ OZ):=fun h=>by have:=h.2.2.1;omega
    go_enter Tryz.func33,Tryz.ntmps33;go_wp2;go_ret;exact⟨⟨false,rfl,⟨fun h=>(by cases h),fun h=>absurd h HN.out⟩⟩,X1.out⟩
   ·have HL1:=qaa h1
    obtain⟨w1,hw1⟩:∃w1,w1=w.alloc (.cells #[.string ⟨bs.toArray⟩,.slice na NZ.length nc,.slice oa OZ.length oc] 24):=⟨_,rfl⟩;rw[←hw1] at X1 B1;have e0:w1.cell? ⟨w.heap.size,0,none⟩=some (.string ⟨bs.toArray⟩):=by rw[cell_of_row _ _ _ _ _ _ B1.out];rfl
    have e1:w1.cell? ⟨w.heap.size,1,none⟩=some (.slice na NZ.length nc):=by rw[cell_of_row _ _ _ _ _ _ B1.out];rfl
    have e2:w1.cell? ⟨w.heap.size,2,none⟩=some (.slice oa OZ.length oc):=by rw[cell_of_row _ _ _ _ _ _ B1.out];rfl
    clear h1;go_enter Tryz.func33,Tryz.ntmps33;go_upto_region 3 with fail
    rw[←hw1];clear hw1;have hwl:w.heap.size<w1.heap.size:=lt_of_block B1.out;have n1:¬w.heap.size=w1.heap.size:=by omega
    have hcv:=Lib.run_convert_string_bytes (P:=Tryz.prog) w1.drew 9 89 5 ⟨bs.toArray⟩ Tryz.underlying9 Tryz.underlying89 Tryz.underlying5;obtain⟨wB,hwB⟩:∃wB,wB=Lib.bytesWorld w1.drew 5 ⟨bs.toArray⟩:=⟨_,rfl⟩;have XB:Hid (Below w1.heap.size w1 wB):=by rw[hwB];exact qgv w1 _
    have k0:=(XB.out.cell (p:=⟨w.heap.size,0,none⟩) hwl).trans e0;have k1:=(XB.out.cell (p:=⟨w.heap.size,1,none⟩) hwl).trans e1;have k2:=(XB.out.cell (p:=⟨w.heap.size,2,none⟩) hwl).trans e2;have HMX:Hid (Calls Tryz.prog 73 #[.slice (some ⟨w1.heap.size,0,none⟩) bs.length (grownCap w1.drew bs.length 0 5)] wB fun e w'=>e=.returned (.int .u8 ((mxL (ntL bs):Nat):Int))∧w'=wB):=by
     have hlen:(ntL bs).length=bs.length:=by unfold ntL;rw[List.length_map]
     have:=qmz w1.heap.size (grownCap w1.drew bs.length 0 5) (ntL bs) wB (by rw[hlen,HL1.out];decide) (by rw[hlen,HL1.out];decide) (fun i hi=>by
      have hi':i<bs.length:=by rwa [hlen] at hi
      rw[hwB];have:=Lib.bytesWorld_cell w1.drew 5 ⟨bs.toArray⟩ i hi';simp only[ntL,List.getElem_map];rw[show(⟨w1.heap.size,i,none⟩:Addr)=⟨w1.drew.heap.size,i,none⟩ from rfl,this];simp[List.getD_eq_getElem?_getD,hi'])
     rw[hlen] at this;exact this
    have hcv':(convert 9 89 (.string ⟨bs.toArray⟩)).run Tryz.prog w1.drew=.ok (.slice (some ⟨w1.heap.size,0,none⟩) bs.length (grownCap w1.drew bs.length 0 5)) wB:=by rw[hwB];exact hcv
    clear hcv hwB;have hml:=qi9 bs;have HMZ:Hid (NZ.length=OZ.length*(mxL (ntL bs)+1)→(NZ.any (qdg OZ.length)=false∧OZ.any nlB=false↔qcr bs NZ OZ)):=fun h=>⟨fun h'=>⟨HL1.out,by omega,by omega,h,h'.1,h'.2⟩,fun h'=>h'.2.2.2.2⟩
    have HMN:Hid (¬NZ.length=OZ.length*(mxL (ntL bs)+1)→¬qcr bs NZ OZ):=fun h h'=>h h'.2.2.2.1
    generalize mxL (ntL bs)=m at *;have hmm:OZ.length*(m+1)≤16777216:=by
     have:=Nat.mul_le_mul (show OZ.length≤65536 by omega) (show m+1≤256 by omega);omega
    have f1:IntKind.i64.wrap (m:Int)=(m:Int):=qak _ (by omega);have f2:IntKind.i64.wrap ((m:Int)+1)=((m+1:Nat):Int):=by rw[show(m:Int)+1=((m+1:Nat):Int) by simp];exact qak _ (by omega)
    have f3:IntKind.i64.wrap ((OZ.length:Int)*((m:Int)+1))=((OZ.length*(m+1):Nat):Int):=by rw[show(OZ.length:Int)*((m:Int)+1)=((OZ.length*(m+1):Nat):Int) by simp];exact qak _ (by omega)
    generalize OZ.length*(m+1)=q at *;go_cut [34] (fun s34 wx=>∃b:Bool,s34=.bool b∧Hid (b=true↔¬NZ.length=q)∧Hid (Below w1.heap.size w1 wx))
    case first=>
     as_aux_lemma=>
      clear HMZ HMN;go_region_with (go_at_call 73;refine HMX.out.mono ?_;rintro e w9 ⟨rfl,hw9⟩;have hw9:=hw9.symm;subst hw9)
      all_goals
       go_wp2;go_meet;exact⟨_,rfl,⟨fun h9=>by simp at h9;omega,fun h9=>by simp;omega⟩,XB⟩
    case rest=>
     obtain⟨b,rfl,HB,X5⟩:=hcut;rename World=>wz
     as_aux_lemma=>
      have d0:=(X5.out.cell (p:=⟨w.heap.size,0,none⟩) hwl).trans e0;have d1:=(X5.out.cell (p:=⟨w.heap.size,1,none⟩) hwl).trans e1;have d2:=(X5.out.cell (p:=⟨w.heap.size,2,none⟩) hwl).trans e2;have XZ:Hid (Below w.heap.size w wz):=bt X1.out X5.out (Nat.le_refl _);clear k0 k1 k2 e0 e1 e2 hcv' XB HMX;cases b with
      |true=>
       have HNM:=qaa (HMN.out (HB.out.1 rfl));go_wp2;go_ret;exact⟨⟨false,rfl,⟨fun h=>(by cases h),fun h=>absurd h HNM.out⟩⟩,XZ.out⟩
      |false=>
       have h4:NZ.length=q:=Classical.byContradiction fun h9=>by have:=HB.out.2 h9;cases this
       have HT:=qaa (HMZ.out h4);clear h4 HMZ HMN HB;have hwz:w.heap.size<wz.heap.size:=Nat.lt_of_lt_of_le hwl X5.out.size;have HC1:=qaa (qda (.func (.func 74) #[] #[.pointer (some ⟨w.heap.size,0,none⟩)]) 74 [.pointer (some ⟨w.heap.size,0,none⟩)] rfl qla (qdg OZ.length) na nc NZ wz hnl (HNX.out.below XZ.out) (fun z _ V x=>qh8 oa OZ.length oc w.heap.size z V ((x.cell (p:=⟨w.heap.size,2,none⟩) hwz).trans d2)));go_wp2_with (fail);refine HC1.out.mono ?_;rintro e w6 ⟨rfl,x6⟩;clear HC1;have d2':=(x6.cell (p:=⟨w.heap.size,2,none⟩) hwz).trans d2;have X6:=qaa (bt XZ.out x6 (Nat.le_refl _));clear d0 d1 d2 x6;cases hA:NZ.any (qdg OZ.length) with
       |true=>
        have HNM:Hid (¬qcr bs NZ OZ):=fun h=>by have:=(HT.out.2 h).1;rw[hA] at this;cases this
        clear HT hA;go_wp2;go_ret;exact⟨⟨false,rfl,⟨fun h=>(by cases h),fun h=>absurd h HNM.out⟩⟩,X6.out⟩
       |false=>
        have HC2:=qaa (qda (.func (.func 75) #[] #[]) 75 [] rfl qlb nlB oa oc OZ w6 hol (HOU.out.below X6.out) (fun z _ V _=>qh9 z V));have HA:=qaa hA;clear hA;go_wp2_with (fail);refine HC2.out.mono ?_;rintro e w7 ⟨rfl,x7⟩;have X7:=qaa (bt X6.out x7 (Nat.le_refl _));clear HC2 x7 d2';cases hO:OZ.any nlB with
        |true=>
         have HNM:Hid (¬qcr bs NZ OZ):=fun h=>by have:=(HT.out.2 h).2;rw[hO] at this;cases this
         clear HT hO;go_wp2;go_ret;exact⟨⟨false,rfl,⟨fun h=>(by cases h),fun h=>absurd h HNM.out⟩⟩,X7.out⟩
        |false=>
         have HM:Hid (qcr bs NZ OZ):=HT.out.1 ⟨HA.out,hO⟩;clear HT hO;go_wp2;go_ret;exact⟨⟨true,rfl,⟨fun _=>HM.out,fun _=>rfl⟩⟩,X7.out⟩
 ·have h1':¬(bs.length:Int)=256:=by omega
  have HN:Hid (¬qcr bs NZ OZ):=fun h=>h1 h.1
  clear h1;go_enter Tryz.func33,Tryz.ntmps33;go_wp2;go_ret;exact⟨⟨false,rfl,⟨fun h=>(by cases h),fun h=>absurd h HN.out⟩⟩,X1.out⟩
end Go.Proofs.YtdgoilkgplnhfaaGreat

