/-
  Pairs held against one another. No condition.
-/
import Derived.Laws.StructEq
import Derived.Test.YtdgoilkgplnhfaaGreatJ21
import Derived.Deep.RegionHeld3
import Derived.Test.YtdgoilkgplnhfaaGreatJ13
import Derived.Test.YtdgoilkgplnhfaaGreatJ14
import Derived.Test.YtdgoilkgplnhfaaGreatJ15
namespace Go.Proofs.YtdgoilkgplnhfaaGreat
open Go.RowKit Go.Lib
theorem qo8 (a b c d:Int) (W:World):(Op.equalIn 10000 48 (.agg #[.int .i64 a,.int .i64 b]) (.agg #[.int .i64 c,.int .i64 d])).run Tryz.prog W=.ok (a==c&&b==d) W:=by
 have hu:∀w,(underlying 48).run Tryz.prog w=.ok (.array 2 3) w:=fun w=>run_underlying Tryz.underlying48 w
 have hs:∀w,(sizeOf 3).run Tryz.prog w=.ok 1 w:=fun w=>Tryz.sizeOf3 w
 have h3:∀(d:Nat) (x y:Int) w,(Op.equalIn (d+1) 3 (.int .i64 x) (.int .i64 y)).run Tryz.prog w=.ok (x==y) w:=fun d x y w=>run_equalIn_int w d 3 .i64 .i64 x y Tryz.underlying3
 have p0:∀(x y:Int) w,(part 3 #[.int .i64 x,.int .i64 y] 0).run Tryz.prog w=.ok (.int .i64 x) w:=fun x y w=>by kernel_rfl
 have p1:∀(x y:Int) w,(part 3 #[.int .i64 x,.int .i64 y] 1).run Tryz.prog w=.ok (.int .i64 y) w:=fun x y w=>by kernel_rfl
 have h4:∀(x y:Int) w,(Op.equalIn 9999 3 (.int .i64 x) (.int .i64 y)).run Tryz.prog w=.ok (x==y) w:=fun x y w=>h3 9998 x y w
 rw[show(10000:Nat)=9999+1 from rfl,Op.equalIn];simp[Sem.run_bind,hu,hs,Std.Legacy.Range.forIn_eq_forIn_range',Std.Legacy.Range.size,List.range',p0,p1,h4];by_cases e1:a=c
 ·by_cases e2:b=d<;>simp[e1,e2]
 ·simp[e1]
theorem Tryz.info48:(Tryz.prog.info? 48).map (fun i=>(i.zero,i.size,i.bytes))=some (some (.agg #[.int .i64 0,.int .i64 0]),2,16):=by kernel_rfl
theorem qa3.cells {w:World} {base g cap n:Nat} {L:List Spn} (h:qa3 w base (.slice (some ⟨g,0,none⟩) n cap) L) {i:Nat} (hi:i<L.length):w.cell? ⟨g,i*2,none⟩=some (.int .i64 (L.getD i (0,0)).1)∧w.cell? ⟨g,i*2+1,none⟩=some (.int .i64 (L.getD i (0,0)).2)∧w.frozen? ⟨g,i*2,none⟩=false∧w.frozen? ⟨g,i*2+1,none⟩=false:=by
 have hh:w.ownsRow base 48 2 (.slice (some ⟨g,0,none⟩) n cap) L.length (qam L):=h;have hn:n=L.length:=by
  rcases hh.2 with⟨e,e2⟩|⟨g',c',cur,e,_⟩
  ·cases e
  ·injection e with _ e2 _
 subst hn;have:=qbk L i hi;exact⟨(hh.cellAt (i*2) (by omega)).trans this.1,(hh.cellAt (i*2+1) (by omega)).trans this.2,hh.frozenAt _,hh.frozenAt _⟩
set_option maxRecDepth 100000 in
set_option maxHeartbeats 1000000 in
theorem qid (base g cap:Nat) (L:List Spn) (w:World) (hl:L.length≤65536) (ho:qa3 w base (.slice (some ⟨g,0,none⟩) L.length cap) L):
 Calls Tryz.prog 95 #[.slice (some ⟨g,0,none⟩) L.length cap] w fun e w'=>(∃v',e=.returned v'∧qa3 w' w.heap.size v' L)∧Below w.heap.size w w':=by
 obtain⟨i0,hi0,hz0,hz1,hz2⟩:=info_parts Tryz.info48;have hnil:=fun(a:Option Addr) (n c:Nat) (W:World)=>run_eql_slice_nil (P:=Tryz.prog) W 44 48 a n c 0 0 Tryz.underlying44
 have hb1:Below w.heap.size w (w.alloc (.cells #[] 48)):=(Below.refl _ _).alloc (Nat.le_refl _) _;have hh:(w.alloc (.cells #[] 48)).ownsRow base 48 2 (.slice (some ⟨g,0,none⟩) L.length cap) L.length (qam L):=own_below ho hb1;have HN:Hid (∀j u,(qam L)[j]? =some u→(w.alloc (.cells #[] 48)).cell? ((⟨g,0,none⟩:Addr).add j)=some u):=fun j u hu=>by
  have hj:j<L.length*2:=by
   rcases Nat.lt_or_ge j (L.length*2) with h1|h1
   ·exact h1
   ·rw[List.getElem?_eq_none (by rw[qaw];exact h1)] at hu;cases hu
  rw[qbu,Nat.zero_add,hh.cellAt j hj];exact hu
 have HO:Hid ((w.alloc (.cells #[] 48)).ownsRow w.heap.size 48 2 (.slice (some ⟨w.heap.size,0,none⟩) 0 0) 0 []):=⟨rfl,.inr ⟨w.heap.size,0,#[],rfl,Nat.le_refl _,by show(w.heap.push _)[_]? =_;simp,Nat.le_refl _,by decide,rfl,rfl⟩⟩;have HB:=qaa hb1;have HL:Hid ((qam L).length=L.length*2):=qaw L;clear ho hb1 hh;go_enter Tryz.func95,Tryz.ntmps95;go_wp2_with (at_builtin;refine wpList_append_own_at _ rfl (.tmp 5) (.tmp 6) 44 rfl w.heap.size 48 i0 (.agg #[.int .i64 0,.int .i64 0]) 2 16 Tryz.underlying44 hi0 hz0 hz1 hz2 rfl (by decide) _ 0 [] rfl HO.out ⟨g,0,none⟩ L.length cap (qam L) rfl HL.out HN.out (qg1 L) (by unfold maxLen;omega) (by omega) HB.out.size ?_;intro v8 w8 h1 h2 _ h3;have H1:=qaa h1;have H2:=qaa h2;clear h1 h2 h3);go_ret;refine⟨⟨_,rfl,?_⟩,HB.out.grown H2.out HB.out.size (fun k hk=>by cases hk;exact Nat.le_refl _)⟩;have:=H1.out;rw[Nat.zero_add,List.nil_append] at this;exact this
set_option maxRecDepth 100000 in
set_option maxHeartbeats 4000000 in
theorem qie (base g cap:Nat) (L:List Spn) (p:Spn) (w:World) (hl:L.length≤65536) (hp:p∈L) (ho:qa3 w base (.slice (some ⟨g,0,none⟩) L.length cap) L):
 Calls Tryz.prog 61 #[.slice (some ⟨g,0,none⟩) L.length cap,.agg #[.int .i64 p.1,.int .i64 p.2]] w fun e w'=>(∃i:Nat,e=.returned (.int .i64 (i:Int))∧i<L.length∧L.getD i (0,0)=p)∧Below w.heap.size w w':=by
 have X1:Below w.heap.size w (w.alloc (.cells #[.int .i64 p.1,.int .i64 p.2] 48)):=(Below.refl _ _).alloc (Nat.le_refl _) _;have B1:=heap_alloc_new w (.cells #[.int .i64 p.1,.int .i64 p.2] 48);obtain⟨w1,hw1⟩:∃w1,w1=w.alloc (.cells #[.int .i64 p.1,.int .i64 p.2] 48):=⟨_,rfl⟩;rw[←hw1] at X1 B1;have HX1:=qaa X1;have HC:Hid (∀V,Below w1.heap.size w1 V→(V.cell? ⟨w.heap.size,0,none⟩=some (.int .i64 p.1)∧V.cell? ⟨w.heap.size,1,none⟩=some (.int .i64 p.2))∧qa3 V base (.slice (some ⟨g,0,none⟩) L.length cap) L):=fun V x=>by
  have Bv:=(x.block _ (lt_of_block B1)).trans B1;exact⟨⟨by rw[cell_of_row _ _ _ _ _ _ Bv];rfl,by rw[cell_of_row _ _ _ _ _ _ Bv];rfl⟩,own_below ho (bt X1 x (Nat.le_refl _))⟩
 have HPM:=qaa hp;clear X1 B1 ho hp;go_enter Tryz.func61,Tryz.ntmps61;go_upto_region 1 with fail
 rw[←hw1];clear hw1;go_wp2;go_loopg [8] (L.length+1) (fun gg x wr=>∃k:Nat,x=.int .i64 (k:Nat)∧k≤L.length∧Hid (∀j,j<k→L.getD j (0,0)≠p)∧Hid (Below w1.heap.size w1 wr)∧L.length-k<gg)
 case atStart=>exact⟨0,rfl,by omega,fun j hj=>by omega,Below.refl _ _,by omega⟩
 case round=>
  obtain⟨k,rfl,hk1,HA,XB,hg⟩:=hrel;have HG:=qaa hg;clear hg;have hk:k<L.length:=by
   apply Nat.lt_of_not_le;intro hle;obtain⟨i,hi,e⟩:=List.getElem_of_mem HPM.out;refine HA.out i (by omega) ?_;simp[List.getD_eq_getElem?_getD,hi,e]
  have hk':(k:Int)<(L.length:Int):=by omega
  obtain⟨⟨c0,c1⟩,ho⟩:=HC.out wr XB.out;obtain⟨d0,d1,_,_⟩:=ho.cells hk;obtain⟨s,hs⟩:∃s,Hid (s=L.getD k (0,0)):=⟨_,rfl⟩;rw[←hs.out] at d0 d1;clear ho;have hpe:s=p↔(p.1=s.1∧p.2=s.2):=⟨fun e=>by rw[e];exact⟨rfl,rfl⟩,fun e=>Prod.ext e.1.symm e.2.symm⟩;have HPE:=qaa hpe;have HXD:=qaa (bt XB.out (Below.refl _ _).drew (Nat.le_refl _));clear hpe;have heq:=fun W=>qo8 p.1 p.2 s.1 s.2 W
  generalize hbb:(p.1==s.1&&p.2==s.2)=bb at heq;go_wp2;go_region_held3 (fun V=>V.cell? ⟨w.heap.size,0,none⟩=some (.int .i64 p.1)∧V.cell? ⟨w.heap.size,1,none⟩=some (.int .i64 p.2)∧V.cell? ⟨g,k*2,none⟩=some (.int .i64 s.1)∧V.cell? ⟨g,k*2+1,none⟩=some (.int .i64 s.2)) (first|assumption|exact⟨c0,c1,d0,d1⟩|(simp[go_sem, *];done)) (first|fail)
  all_goals
   have hgt:L.getD k (0,0)=s:=hs.out.symm;cases bb with
   |true=>
    have hps:s=p:=by
     simp only[Bool.and_eq_true,beq_iff_eq] at hbb;exact HPE.out.2 hbb
    have HR:Hid (L.getD k (0,0)=p):=hgt.trans hps;clear hgt hps hbb;go_wp2;go_ret;exact⟨⟨k,rfl,hk,HR.out⟩,bt HX1.out HXD.out (Nat.le_refl _)⟩
   |false=>
    have HN:Hid (∀j,j<k+1→L.getD j (0,0)≠p):=fun j hj=>by
     by_cases e:j=k
     ·rw[e,hgt]
      intro h;obtain⟨h1,h2⟩:=HPE.out.1 h;simp[h1,h2] at hbb
     ·exact HA.out j (by omega)
    clear hgt hbb;go_wp2;go_roundg (L.length-(k+1)+1)
    case measure=>have:=HG.out;omega
    case rel=>exact⟨k+1,by first|rfl|go_num|(congr 1;omega),by omega,HN,HXD,by omega⟩
theorem qg2 (L:List Spn) (i:Nat) (p:Spn) (hi:i<L.length):((qam L).set (i*2) (.int .i64 p.1)).set (i*2+1) (.int .i64 p.2)=qam (L.set i p):=by
 apply List.ext_getElem?;intro j;by_cases hj:j<L.length*2
 ·have h2:j/2<L.length:=by omega
  obtain⟨a1,a2⟩:=qbk L (j/2) h2;obtain⟨b1,b2⟩:=qbk (L.set i p) (j/2) (by rw[List.length_set];exact h2);have hg:(L.set i p).getD (j/2) (0,0)=if i=j/2 then p else L.getD (j/2) (0,0):=by
   simp only[List.getD_eq_getElem?_getD,List.getElem?_set,hi];by_cases e:i=j/2<;>simp[e,h2]
  rw[hg] at b1 b2;rw[List.getElem?_set,List.getElem?_set,List.length_set,qaw];rcases Nat.mod_two_eq_zero_or_one j with hm|hm
  ·rw[show j/2*2=j by omega] at a1 b1
   rw[b1];by_cases e:i=j/2
   ·rw[if_neg (by omega),if_pos (by omega),if_pos e,if_pos (by omega)]
   ·rw[if_neg (by omega),if_neg (by omega),if_neg e]
    exact a1
  ·rw[show j/2*2+1=j by omega] at a2 b2
   rw[b2];by_cases e:i=j/2
   ·rw[if_pos (by omega),if_pos e,if_pos (by omega)]
   ·rw[if_neg (by omega),if_neg (by omega),if_neg e]
    exact a2
 ·rw[List.getElem?_eq_none (by rw[List.length_set,List.length_set,qaw];omega),List.getElem?_eq_none (by rw[qaw,List.length_set];omega)]
theorem qa3.put {w:World} {base g cap n:Nat} {L:List Spn} (h:qa3 w base (.slice (some ⟨g,0,none⟩) n cap) L) (i:Nat) (p:Spn) (hi:i<L.length):qa3 ((w.setCell ⟨g,i*2,none⟩ (.int .i64 p.1)).setCell ⟨g,i*2+1,none⟩ (.int .i64 p.2)) base (.slice (some ⟨g,0,none⟩) n cap) (L.set i p)∧Kept (fun k=>k=g) w ((w.setCell ⟨g,i*2,none⟩ (.int .i64 p.1)).setCell ⟨g,i*2+1,none⟩ (.int .i64 p.2)):=by
 have hh:w.ownsRow base 48 2 (.slice (some ⟨g,0,none⟩) n cap) L.length (qam L):=h;have hn:n=L.length:=by
  rcases hh.2 with⟨e,e2⟩|⟨g',c',cur,e,_⟩
  ·cases e
  ·injection e with _ e2 _
 subst hn;obtain⟨h1,h2⟩:=hh.stored (i*2) (.int .i64 p.1);obtain⟨h3,h4⟩:=h1.stored (i*2+1) (.int .i64 p.2);refine⟨?_,((qae h2).mono (fun k hk=>by injection hk with hk;exact hk.symm)).trans ((qae h4).mono (fun k hk=>by injection hk with hk;exact hk.symm))⟩;unfold qa3;rw[List.length_set,←qg2 L i p hi];exact h3
theorem qif (n:Nat):(madeCells (Value.agg #[.int .i64 0,.int .i64 0]).cells (n*2)).toList=qam (List.replicate n (0,0)):=by
 apply List.ext_getElem?;intro j;by_cases hj:j<n*2
 ·have h2:j/2<n:=by omega
  obtain⟨a1,a2⟩:=qbk (List.replicate n ((0,0):Spn)) (j/2) (by simpa using h2);have e0:(madeCells (Value.agg #[.int .i64 0,.int .i64 0]).cells (n*2)).toList[j]? =some (.int .i64 0):=by
   rcases Nat.mod_two_eq_zero_or_one j with hm|hm<;>simp[madeCells,Value.cells,hj,hm]
  rw[e0];rcases Nat.mod_two_eq_zero_or_one j with hm|hm
  ·rw[show j/2*2=j by omega] at a1
   rw[a1];simp[List.getD_eq_getElem?_getD,h2]
  ·rw[show j/2*2+1=j by omega] at a2
   rw[a2];simp[List.getD_eq_getElem?_getD,h2]
 ·rw[List.getElem?_eq_none (by simp[madeCells];omega),List.getElem?_eq_none (by rw[qaw];simp;omega)]
def lpL (OA OB:List Nat) (St:List (Nat×Nat)):List Spn:=St.map fun p=>(((gN OA p.1:Nat):Int),((gN OB p.2:Nat):Int))
theorem qb3 (OA OB:List Nat) (St:List (Nat×Nat)):(lpL OA OB St).length=St.length:=by simp[lpL]
set_option maxRecDepth 100000 in
set_option maxHeartbeats 8000000 in
theorem qec (bsA bsB:By) (xA oA xB oB:Option Addr) (nA nB xAc oAc xBc oBc sg sc b0:Nat) (OA OB:List Nat) (St:List (Nat×Nat)) (w:World) (hn:St.length≤65536) (hst:∀p∈St,p.1<OA.length∧p.2<OB.length) (hkA:NAt w oA OA) (hkB:NAt w oB OB) (ho:w.ownsRow b0 101 2 (.slice (some ⟨sg,0,none⟩) St.length sc) St.length (oC prV St)):
 Calls Tryz.prog 59 #[auV bsA xA nA xAc oA OA.length oAc,auV bsB xB nB xBc oB OB.length oBc,.slice (some ⟨sg,0,none⟩) St.length sc] w fun e w'=>(∃g,e=.returned (.slice (some ⟨g,0,none⟩) St.length St.length)∧qa3 w' w.heap.size (.slice (some ⟨g,0,none⟩) St.length St.length) (lpL OA OB St))∧Below w.heap.size w w':=by
 obtain⟨i0,hi0,hz0,hz1,hz2⟩:=info_parts Tryz.info48;obtain⟨w2,hw2⟩:∃w2,w2=(w.alloc (.cells #[.string ⟨bsA.toArray⟩,.slice xA nA xAc,.slice oA OA.length oAc] 24)).alloc (.cells #[.string ⟨bsB.toArray⟩,.slice xB nB xBc,.slice oB OB.length oBc] 24):=⟨_,rfl⟩;obtain⟨X2,B1,B2,hs2⟩:=qap w #[.string ⟨bsA.toArray⟩,.slice xA nA xAc,.slice oA OA.length oAc] #[.string ⟨bsB.toArray⟩,.slice xB nB xBc,.slice oB OB.length oBc] 24 24;rw[←hw2] at X2 B1 B2 hs2;have HC:Hid (∀V,Below w2.heap.size w2 V→(V.cell? ⟨w.heap.size,2,none⟩=some (.slice oA OA.length oAc)∧V.cell? ⟨w.heap.size+1,2,none⟩=some (.slice oB OB.length oBc))∧NAt V oA OA∧NAt V oB OB∧V.ownsRow b0 101 2 (.slice (some ⟨sg,0,none⟩) St.length sc) St.length (oC prV St)):=fun V x=>by
  have Bv:=(x.block _ (lt_of_block B1)).trans B1;have Bw:=(x.block _ (lt_of_block B2)).trans B2;exact⟨⟨by rw[cell_of_row _ _ _ _ _ _ Bv];rfl,by rw[cell_of_row _ _ _ _ _ _ Bw];rfl⟩,hkA.below (bt X2 x (Nat.le_refl _)),hkB.below (bt X2 x (Nat.le_refl _)),own_below ho (bt X2 x (Nat.le_refl _))⟩
 have HX2:=qaa X2;have HST:=qaa hst;have HKA:=qaa hkA;have HKB:=qaa hkB;obtain⟨P0,hP0⟩:∃P,Hid (P=lpL OA OB St):=⟨_,rfl⟩;have hPl:P0.length=St.length:=by rw[hP0.out,qb3]
 have HBS:Hid (w.heap.size+2=w2.heap.size):=hs2.symm;clear X2 B1 B2 hs2 hkA hkB ho hst;unfold auV;go_enter Tryz.func59,Tryz.ntmps59;go_upto_region 1 with fail
 rw[←hw2];clear hw2;go_wp2_with (at_make;refine wpList_make_full _ rfl (.tmp 11) (.tmp 11) 44 rfl w2.heap.size 48 i0 (.agg #[.int .i64 0,.int .i64 0]) 2 Tryz.underlying44 hi0 hz0 hz1 .i64 .i64 _ _ St.length rfl rfl rfl rfl (by rw[hz2];omega) (by unfold maxLen;omega) (Nat.le_refl _) ?_;intro wm h1 h2;have XM0:=qaa (qad h2);have OM0:Hid (qa3 wm w2.heap.size (.slice (some ⟨w2.heap.size,0,none⟩) St.length St.length) (P0.take 0++List.replicate (St.length-0) (0,0))):=(by unfold Hid qa3;rw[qif] at h1;simpa using h1);clear h1 h2);go_loopg [15] (St.length+1) (fun g x wr=>∃i:Nat,x=.int .i64 (i:Nat)∧i≤St.length∧Hid (qa3 wr w2.heap.size (.slice (some ⟨w2.heap.size,0,none⟩) St.length St.length) (P0.take i++List.replicate (St.length-i) (0,0)))∧Hid (Below w2.heap.size w2 wr)∧St.length-i<g)
 case atStart=>exact⟨0,rfl,by omega,OM0,XM0,by omega⟩
 case round=>
  obtain⟨i,rfl,hi1,O,XB,hg⟩:=hrel;have HG:=qaa hg;clear hg OM0 XM0;by_cases hi:i<St.length
  ·have hi':(i:Int)<(St.length:Int):=by omega
   obtain⟨p,hp⟩:∃p,Hid (p=St[i]):=⟨St[i],qaa rfl⟩;obtain⟨hp1,hp2⟩:=HST.out _ (List.getElem_mem hi);rw[←hp.out] at hp1 hp2;have X4:=qaa (bt XB.out (al (Below.refl wr.heap.size wr) (.cells #[.int .i64 (p.1:Int),.int .i64 (p.2:Int)] 101)) (Nat.le_refl _));obtain⟨_,_,_,hrow⟩:=HC.out wr XB.out;have s0:wr.cell? ⟨sg,i*2,none⟩=some (.int .i64 (p.1:Int)):=by
    have:=qfn (val:=prV) (K:=2) St (fun _ _=>rfl) i hi 0 (by decide);rw[Nat.add_zero,←hp.out] at this;exact(hrow.cellAt (i*2) (by omega)).trans this
   have s1:wr.cell? ⟨sg,i*2+1,none⟩=some (.int .i64 (p.2:Int)):=by
    have:=qfn (val:=prV) (K:=2) St (fun _ _=>rfl) i hi 1 (by decide);rw[←hp.out] at this;exact(hrow.cellAt (i*2+1) (by omega)).trans this
   obtain⟨⟨c0,c1⟩,kA,kB,_⟩:=HC.out _ X4.out;obtain⟨ab,ao,hoA,hab,ca⟩:=HKA.out.get hp1;obtain⟨bb,bo,hoB,hbb,cb⟩:=HKB.out.get hp2;subst hoA hoB;rw[←qah hp1] at ca;rw[←qah hp2] at cb;have ca:=((bt HX2.out X4.out (Nat.le_refl _)).cell (p:=⟨ab,ao+p.1,none⟩) hab).trans ca;have cb:=((bt HX2.out X4.out (Nat.le_refl _)).cell (p:=⟨bb,bo+p.2,none⟩) hbb).trans cb;have hB4:=heap_alloc_new wr (.cells #[.int .i64 (p.1:Int),.int .i64 (p.2:Int)] 101);have t0:=cell_of_row _ _ 0 _ _ _ hB4;have t1:=cell_of_row _ _ 1 _ _ _ hB4;have O4:qa3 (wr.alloc (.cells #[.int .i64 (p.1:Int),.int .i64 (p.2:Int)] 101)) w2.heap.size (.slice (some ⟨w2.heap.size,0,none⟩) St.length St.length) (P0.take i++List.replicate (St.length-i) (0,0)):=own_below O.out (al (Below.refl _ _) _);obtain⟨w4,hw4⟩:∃w4,w4=wr.alloc (.cells #[.int .i64 (p.1:Int),.int .i64 (p.2:Int)] 101):=⟨_,rfl⟩;rw[←hw4] at X4 c0 c1 ca cb t0 t1 O4;have hll:(P0.take i++List.replicate (St.length-i) ((0,0):Spn)).length=St.length:=by simp;omega
   have hP0l:i<P0.length:=by omega
   have e3:(P0.take i++List.replicate (St.length-i) ((0,0):Spn)).set i P0[i]=P0.take (i+1)++List.replicate (St.length-(i+1)) (0,0):=by
    rw[List.set_append_right _ _ (by simp;omega),List.take_succ_eq_append_getElem hP0l,List.append_assoc]
    congr 1
    obtain⟨q,hq⟩:∃q,St.length-i=q+1:=⟨St.length-i-1,by omega⟩;rw[hq,show St.length-(i+1)=q by omega,show i-(P0.take i).length=0 by simp;omega];rfl
   have hP0i:P0[i]=(((gN OA p.1:Nat):Int),((gN OB p.2:Nat):Int)):=by
    have h9:P0[i]? =some (((gN OA p.1:Nat):Int),((gN OB p.2:Nat):Int)):=by
     rw[hP0.out,hp.out];simp[lpL,hi]
    rw[List.getElem?_eq_getElem hP0l] at h9;injection h9
   clear hrow kA kB hB4;have hog:=(World.ownsRow.lt (show wr.ownsRow w2.heap.size 48 2 (.slice (some ⟨w2.heap.size,0,none⟩) St.length St.length) _ (qam _) from O.out) w2.heap.size rfl).2;have hw4s:w4.heap.size=wr.heap.size+1:=by rw[hw4];simp
   have hbs:=HBS.out;have HSK:Hid (∀V,Kept (fun k=>k=w2.heap.size) w4 V→V.cell? ⟨w.heap.size,2,none⟩=some (.slice (some ⟨ab,ao,none⟩) OA.length oAc)∧V.cell? ⟨w.heap.size+1,2,none⟩=some (.slice (some ⟨bb,bo,none⟩) OB.length oBc)∧V.cell? ⟨wr.heap.size,0,none⟩=some (.int .i64 (p.1:Int))∧V.cell? ⟨wr.heap.size,1,none⟩=some (.int .i64 (p.2:Int))∧V.cell? ⟨ab,ao+p.1,none⟩=some (.int .i64 ((gN OA p.1:Nat):Int))∧V.cell? ⟨bb,bo+p.2,none⟩=some (.int .i64 ((gN OB p.2:Nat):Int))):=fun V k=>by
    refine⟨(k.cell (p:=⟨w.heap.size,2,none⟩) (show w.heap.size<w4.heap.size by omega) (show ¬w.heap.size=w2.heap.size by omega)).trans c0,(k.cell (p:=⟨w.heap.size+1,2,none⟩) (show w.heap.size+1<w4.heap.size by omega) (show ¬w.heap.size+1=w2.heap.size by omega)).trans c1,(k.cell (p:=⟨wr.heap.size,0,none⟩) (show wr.heap.size<w4.heap.size by omega) (show ¬wr.heap.size=w2.heap.size by omega)).trans t0,(k.cell (p:=⟨wr.heap.size,1,none⟩) (show wr.heap.size<w4.heap.size by omega) (show ¬wr.heap.size=w2.heap.size by omega)).trans t1,(k.cell (p:=⟨ab,ao+p.1,none⟩) (show ab<w4.heap.size by omega) (show ¬ab=w2.heap.size by omega)).trans ca,(k.cell (p:=⟨bb,bo+p.2,none⟩) (show bb<w4.heap.size by omega) (show ¬bb=w2.heap.size by omega)).trans cb⟩
   have O4d:qa3 w4.drew w2.heap.size (.slice (some ⟨w2.heap.size,0,none⟩) St.length St.length) (P0.take i++List.replicate (St.length-i) (0,0)):=own_below O4 (Below.refl _ _).drew;obtain⟨_,_,f0,f1⟩:=O4.cells (i:=i) (by omega);obtain⟨y0,y1,_,_⟩:=O4.cells (i:=i) (by omega);obtain⟨o5,k5⟩:=O4d.put i P0[i] (by omega);rw[e3] at o5;rw[hP0i] at o5 k5;have O5:=qaa o5;have K5:=qaa k5;have K4:=qaa ((Kept.of_below (F:=fun k=>k=w2.heap.size) (Below.refl w4.heap.size w4).drew).trans k5);have X5:=qaa ((bt X4.out (Below.refl _ _).drew (Nat.le_refl _)).trans (k5.below (by have:=X4.out.size;exact this) (fun k hk=>by omega)));have a1:(p.1:Int)<(OA.length:Int):=by omega
   have a2:(p.2:Int)<(OB.length:Int):=by omega
   clear O4 O4d o5 k5 e3 hP0i hll hP0l hw4s hbs;generalize gN OA p.1=la at *;generalize gN OB p.2=lb at *;go_upto_region 5 with fail
   rw[←hw4];clear hw4 s0 s1;go_region_held3 (fun V=>V.cell? ⟨w.heap.size,2,none⟩=some (.slice (some ⟨ab,ao,none⟩) OA.length oAc)∧V.cell? ⟨w.heap.size+1,2,none⟩=some (.slice (some ⟨bb,bo,none⟩) OB.length oBc)∧V.cell? ⟨wr.heap.size,0,none⟩=some (.int .i64 (p.1:Int))∧V.cell? ⟨wr.heap.size,1,none⟩=some (.int .i64 (p.2:Int))∧V.cell? ⟨ab,ao+p.1,none⟩=some (.int .i64 (la:Int))∧V.cell? ⟨bb,bo+p.2,none⟩=some (.int .i64 (lb:Int))) (first|assumption|exact⟨c0,c1,t0,t1,ca,cb⟩|exact HSK.out _ (Kept.of_below (Below.refl _ _).drew)|exact HSK.out _ K4.out) (first|fail)
   all_goals
    go_wp2;go_roundg (St.length-(i+1)+1)
    case measure=>have:=HG.out;omega
    case rel=>exact⟨i+1,by first|rfl|go_num|(congr 1;omega),by omega,O5,X5,by omega⟩
  ·have hi':¬(i:Int)<(St.length:Int):=by omega
   obtain rfl:i=St.length:=by omega
   have o4:qa3 wr w2.heap.size (.slice (some ⟨w2.heap.size,0,none⟩) St.length St.length) P0:=by have:=O.out;rwa [Nat.sub_self,List.replicate_zero,List.append_nil,List.take_of_length_le (by omega)] at this
   rw[hP0.out] at o4;have O5:=qaa o4;have X5:=qaa (bt HX2.out XB.out (Nat.le_refl _));clear o4;go_wp2;go_ret;refine⟨⟨_,rfl,?_⟩,X5.out⟩;have h9:=O5.out;refine⟨h9.1,?_⟩;rcases h9.2 with h|⟨g',c',cur,e,hb,r⟩
   ·exact .inl h
   ·exact .inr ⟨g',c',cur,e,by have:=HBS.out;omega,r⟩
end Go.Proofs.YtdgoilkgplnhfaaGreat

