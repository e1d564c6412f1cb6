/-
  slices.Compact at rows of pairs: each but once where equal ones stand side by side. Condition: at most 65536 pairs.
-/
import Derived.Deep.LoopGhost
import Derived.Test.YtdgoilkgplnhfaaGreatJ22
import Derived.Lib.SliceRun
import Derived.Test.YtdgoilkgplnhfaaGreatJ21
import Derived.Test.YtdgoilkgplnhfaaGreatJ15
import Derived.Test.YtdgoilkgplnhfaaGreatJ02
import Derived.Deep.WholeRow
namespace Go.Proofs.YtdgoilkgplnhfaaGreat
open Go.RowKit Go.Lib
def gQ (M:List Spn) (k:Nat):Spn:=M.getD k (0,0)
def cpk (M:List Spn):Nat→List Spn
 |0=>[]
 |k+1=>if 0<k∧gQ M k=gQ M (k-1) then cpk M k else cpk M k++[gQ M k]
theorem qch {M:List Spn} {k:Nat} (h:k<M.length):gQ M k=M[k]:=by unfold gQ;simp[List.getD_eq_getElem?_getD,h]
structure CpS (M R:List Spn) (m:Nat):Prop where
 ln:R.length=M.length
 tk:R.take (cpk M m).length=cpk M m
 le:(cpk M m).length+1≤m
 ml:m≤M.length
 rs:∀j,m≤j+1→j<M.length→gQ R j=gQ M j
theorem CpS.start {M:List Spn} {k:Nat} (hk:0<k) (hl:k<M.length) (he:gQ M k=gQ M (k-1)) (ht:cpk M k=M.take k):CpS M M (k+1):=by
 have e:cpk M (k+1)=M.take k:=by
  unfold cpk;rw[if_pos ⟨hk,he⟩,ht]
 have el:(M.take k).length=k:=by rw[List.length_take];omega
 exact⟨rfl,by rw[e,el],by rw[e,el];omega,by omega,fun _ _ _=>rfl⟩
theorem CpS.same {M R:List Spn} {m:Nat} (h:CpS M R m) (hm:m<M.length) (he:gQ M m=gQ M (m-1)):CpS M R (m+1)∧cpk M (m+1)=cpk M m:=by
 have h0:0<m:=by have:=h.le;omega
 have e:cpk M (m+1)=cpk M m:=by
  conv=>lhs;unfold cpk
  rw[if_pos ⟨h0,he⟩]
 exact⟨⟨h.ln,by rw[e];exact h.tk,by rw[e];have:=h.le;omega,by omega,fun j hj=>h.rs j (by omega)⟩,e⟩
theorem CpS.other {M R:List Spn} {m:Nat} (h:CpS M R m) (hm:m<M.length) (he:¬gQ M m=gQ M (m-1)):CpS M (R.set (cpk M m).length (gQ M m)) (m+1)∧(cpk M (m+1)).length=(cpk M m).length+1:=by
 have hle:=h.le;have e:cpk M (m+1)=cpk M m++[gQ M m]:=by
  conv=>lhs;unfold cpk
  rw[if_neg (fun h=>he h.2)]
 have el:(cpk M (m+1)).length=(cpk M m).length+1:=by rw[e];simp
 refine⟨⟨by rw[List.length_set,h.ln],?_,by rw[el];omega,by omega,fun j hj hl=>?_⟩,el⟩
 ·have hlr:(cpk M m).length<(R.set (cpk M m).length (gQ M m)).length:=by rw[List.length_set,h.ln];omega
  rw[el,List.take_succ_eq_append_getElem hlr,e]
  congr 1
  ·rw[List.take_set_of_le (Nat.le_refl _)]
   exact h.tk
  ·simp
 ·have:gQ (R.set (cpk M m).length (gQ M m)) j=gQ R j:=by
   unfold gQ;rw[List.getD_eq_getElem?_getD,List.getElem?_set,if_neg (by omega),List.getD_eq_getElem?_getD]
  rw[this];exact h.rs j (by omega) hl
theorem qa3.short {w:World} {base g cap n:Nat} {R:List Spn} (h:qa3 w base (.slice (some ⟨g,0,none⟩) n cap) R) {k:Nat} (hk:k≤R.length):qa3 w base (.slice (some ⟨g,0,none⟩) k cap) (R.take k):=by
 have hh:w.ownsRow base 48 2 (.slice (some ⟨g,0,none⟩) n cap) R.length (qam R):=h;have el:(R.take k).length=k:=by rw[List.length_take];omega
 have hn:n=R.length:=by
  rcases hh.2 with⟨e,e2⟩|⟨g',c',cur,e,_⟩
  ·cases e
  ·injection e with _ e2 _
 subst hn;rcases hh.2 with⟨e,_⟩|⟨g',cap',cur,hv,h2,h3,h4,h5,h6,h7⟩
 ·cases e
 ·injection hv with e1 _ e3
  injection e1 with e1
  injection e1 with e1 _ _
  subst e1 e3;unfold qa3;rw[el];refine qdo h2 h3 (by omega) h5 h6 (by rw[qaw,el]) (fun j hj=>?_);rw[hh.cellAt j (by omega)];have e:qam R=qam (R.take k)++qam (R.drop k):=by rw[←qcx,List.take_append_drop]
  rw[e,List.getElem?_append_left (by rw[qaw,el];exact hj)]
theorem qa3.behind {base g cap k:Nat} {K:List Spn}:∀(vs:List Value) (o:Nat) (w:World),K.length*2≤o→qa3 w base (.slice (some ⟨g,0,none⟩) k cap) K→qa3 (w.setCells g o vs) base (.slice (some ⟨g,0,none⟩) k cap) K∧Kept (fun i=>i=g) w (w.setCells g o vs)
 |[],_,w,_,h=>⟨h,Kept.refl _ _⟩
 |v::vs,o,w,ho,h=>by
  have hh:w.ownsRow base 48 2 (.slice (some ⟨g,0,none⟩) k cap) K.length (qam K):=h;have hn:k=K.length:=by
   rcases hh.2 with⟨e,e2⟩|⟨g',c',cur,e,_⟩
   ·cases e
   ·injection e with _ e2 _
  subst hn;obtain⟨h1,h2⟩:=hh.stored o v;rw[List.set_eq_of_length_le (by rw[qaw];exact ho)] at h1;obtain⟨h3,h4⟩:=qa3.behind vs (o+1) (w.setCell ⟨g,o,none⟩ v) (by omega) h1;exact⟨h3,((qae h2).mono (fun k hk=>by injection hk with hk;exact hk.symm)).trans h4⟩
theorem qob (ty:TypeId) (w:World) (g o n c:Nat) (hn:0<n) (hc:∀j,j<n*2→(w.cell? ⟨g,o+j,none⟩).isSome=true) (hf:∀j,j<n*2→w.frozen? ⟨g,o+j,none⟩=false):
 (Builtin.clear_ #[44] ty #[.slice (some ⟨g,o,none⟩) n c]).run Tryz.prog w=.ok (.tuple #[]) (w.setCells g o (List.replicate (n*2) (.int .i64 0))):=by
 have hv:∀w,(zeroValue 48).run Tryz.prog w=.ok (.agg #[.int .i64 0,.int .i64 0]) w:=fun w=>Tryz.zeroValue48 w
 have hzc:(Builtin.zeroCells (Value.agg #[.int .i64 0,.int .i64 0]).cells n).toList=List.replicate (n*2) (.int .i64 0):=by
  simp[Builtin.zeroCells,Value.cells];apply List.ext_getElem
  ·simp
  ·intro i h1 h2
   rcases Nat.mod_two_eq_zero_or_one i with hm|hm<;>simp[hm]
 have hst:=run_storeCells_cells (P:=Tryz.prog) g o (List.replicate (n*2) (Value.int .i64 0)) 0 w (by simpa using hc) (by simpa using hf) (by intro v hv';rw[List.eq_of_mem_replicate hv'];rfl);simp only[Nat.add_zero] at hst;obtain⟨m,rfl⟩:∃m,n=m+1:=⟨n-1,by omega⟩;simp[Builtin.clear_,run_underlying Tryz.underlying44,hv,hzc,hst]
theorem qa3.at' {w:World} {base g cap n:Nat} {L:List Spn} (h:qa3 w base (.slice (some ⟨g,0,none⟩) n cap) L) {i:Nat} (hi:i<L.length) (a b:Nat) (ha:a=i*2) (hb:b=i*2+1):w.cell? ⟨g,a,none⟩=some (.int .i64 (gQ L i).1)∧w.cell? ⟨g,b,none⟩=some (.int .i64 (gQ L i).2)∧w.frozen? ⟨g,a,none⟩=false∧w.frozen? ⟨g,b,none⟩=false:=by
 subst ha hb;exact h.cells hi
set_option maxRecDepth 100000 in
set_option maxHeartbeats 8000000 in
theorem qg3 (base g cap:Nat) (M:List Spn) (w:World) (h1:0<M.length) (hn:M.length≤65536) (ho:qa3 w base (.slice (some ⟨g,0,none⟩) M.length cap) M):
 Calls Tryz.prog 99 #[.slice (some ⟨g,0,none⟩) M.length cap] w fun e w'=>e=.returned (.slice (some ⟨g,0,none⟩) (cpk M M.length).length cap)∧qa3 w' base (.slice (some ⟨g,0,none⟩) (cpk M M.length).length cap) (cpk M M.length)∧Kept (fun k=>k=g) w w':=by
 have HO:=qaa ho;have hcap:M.length≤cap:=by
  rcases ho.2 with⟨e,_⟩|⟨g',cap',cur,hv,h2,h3,h4,_⟩
  ·cases e
  ·injection hv with _ _ e3
   subst e3;exact h4
 have HK0:Hid (Kept (fun k=>k=g) w w):=Kept.refl _ _;have c1:Hid (cpk M (0+1)=M.take (0+1)):=by
  unfold Hid cpk cpk;rw[if_neg (by omega),List.nil_append,List.take_succ_eq_append_getElem h1,List.take_zero,List.nil_append,qch h1]
 clear ho;by_cases h2:M.length<2
 ·have h2':(M.length:Int)<2:=by omega
  have e1:Hid (cpk M M.length=M):=by
   unfold Hid;have e:M.length=0+1:=by omega
   have:=c1.out;rw[←e,List.take_length] at this;exact this
  go_enter Tryz.func99,Tryz.ntmps99;go_wp2;go_ret;rw[e1.out];exact⟨rfl,HO.out,HK0.out⟩
 ·have h2':¬(M.length:Int)<2:=by omega
  have R0:Hid ((0:Nat)<M.length):=h1;go_enter Tryz.func99,Tryz.ntmps99;go_wp2;go_loopg [3] (M.length+1) (fun gg x wr=>∃k:Nat,x=.int .i64 ((k:Int)+1)∧k<M.length∧Hid (cpk M (k+1)=M.take (k+1))∧Hid (qa3 wr base (.slice (some ⟨g,0,none⟩) M.length cap) M)∧Hid (Kept (fun k=>k=g) w wr)∧M.length-k<gg)
  case atStart=>exact⟨0,rfl,by omega,c1,HO,HK0,by omega⟩
  case round=>
   obtain⟨k,rfl,hk,CT,O,KP,hgg⟩:=hrel;have HG:=qaa hgg;clear hgg HO HK0 c1 R0;by_cases hkn:k+1<M.length
   ·have hkn':(k:Int)+1<(M.length:Int):=by omega
    have hk':(k:Int)<(M.length:Int):=by omega
    have w1:IntKind.i64.wrap ((k:Int)+1-1)=(k:Int):=by simp[IntKind.wrap,IntKind.bits,IntKind.signed];omega
    have w2:IntKind.i64.wrap ((k:Int)+1+1)=(k:Int)+1+1:=by simp[IntKind.wrap,IntKind.bits,IntKind.signed];omega
    have w3:IntKind.i64.wrap ((k:Int)+1)=(k:Int)+1:=by simp[IntKind.wrap,IntKind.bits,IntKind.signed];omega
    have w4:IntKind.i64.wrap (k:Int)=(k:Int):=qak _ (by omega);have p0:(0:Int)≤(k:Int)+1:=by omega
    have p1:((k:Int)+1).toNat=k+1:=by omega
    obtain⟨a0,a1,_,_⟩:=O.out.at' (i:=k+1) hkn ((k+1)*2) ((k+1)*2+1) rfl rfl;obtain⟨b0,b1,_,_⟩:=O.out.at' (i:=k) hk (k*2) (k*2+1) rfl rfl;have heq:=fun W=>qo8 (gQ M (k+1)).1 (gQ M (k+1)).2 (gQ M k).1 (gQ M k).2 W
    have hbe:((gQ M (k+1)).1==(gQ M k).1&&(gQ M (k+1)).2==(gQ M k).2)=true↔gQ M (k+1)=gQ M k:=by
     simp only[Bool.and_eq_true,beq_iff_eq];exact⟨fun h=>Prod.ext h.1 h.2,fun h=>by rw[h];exact⟨rfl,rfl⟩⟩
    generalize ((gQ M (k+1)).1==(gQ M k).1&&(gQ M (k+1)).2==(gQ M k).2)=bb at heq hbe;have HBE:=qaa hbe;have OD:Hid (qa3 wr.drew base (.slice (some ⟨g,0,none⟩) M.length cap) M):=own_below O.out (Below.refl _ _).drew;have KD:=qaa (KP.out.trans (Kept.of_below (Below.refl _ _).drew));clear hbe;go_wp2;go_region_held3 (fun V=>V.cell? ⟨g,(k+1)*2,none⟩=some (.int .i64 (gQ M (k+1)).1)∧V.cell? ⟨g,(k+1)*2+1,none⟩=some (.int .i64 (gQ M (k+1)).2)∧V.cell? ⟨g,k*2,none⟩=some (.int .i64 (gQ M k).1)∧V.cell? ⟨g,k*2+1,none⟩=some (.int .i64 (gQ M k).2)) (first|assumption|exact⟨a0,a1,b0,b1⟩|(simp[go_sem, *];done)) (first|fail);cases bb with
    |false=>
     have CN:Hid (cpk M (k+1+1)=M.take (k+1+1)):=by
      unfold Hid;have hne:¬(0<k+1∧gQ M (k+1)=gQ M (k+1-1)):=fun h=>by have:=HBE.out.2 h.2;cases this
      conv=>lhs;unfold cpk
      rw[if_neg hne,CT.out,List.take_succ_eq_append_getElem hkn,qch hkn]
     clear heq a0 a1 b0 b1;go_wp2;go_roundg (M.length-(k+1)+1)
     case measure=>have:=HG.out;omega
     case rel=>exact⟨k+1,by first|rfl|go_num|(congr 1;omega),by omega,CN,OD,KD,by omega⟩
    |true=>
     have CS:Hid (CpS M M (k+1+1)):=CpS.start (by omega) hkn (HBE.out.1 rfl) CT.out;have hlen0:(cpk M (k+1+1)).length=k+1:=by
      have e:cpk M (k+1+1)=cpk M (k+1):=by
       conv=>lhs;unfold cpk
       rw[if_pos ⟨by omega,HBE.out.1 rfl⟩]
      rw[e,CT.out,List.length_take];omega
     have HL0:=qaa hlen0;have hcp:(k:Int)+1≤(M.length:Int):=by omega
     have hcc:(k:Int)+1≤(cap:Int):=by omega
     clear heq a0 a1 b0 b1 hlen0;go_wp2;obtain⟨n2,hn2⟩:∃n2,n2=M.length-(k+1):=⟨_,rfl⟩;obtain⟨c2,hc2⟩:∃c2,c2=cap-(k+1):=⟨_,rfl⟩;rw[←hn2,←hc2];have HN2:=qaa hn2;clear hn2 hc2;go_loopg [3,5] (M.length+1) (fun gg x3 x5 wr=>∃(R:List Spn) (q:Nat),x3=.int .i64 (((cpk M (k+1+(q+1))).length:Nat):Int)∧x5=.int .i64 ((q:Int)+1)∧Hid (qa3 wr base (.slice (some ⟨g,0,none⟩) M.length cap) R)∧Hid (CpS M R (k+1+(q+1)))∧Hid (Kept (fun k=>k=g) w wr)∧M.length-q<gg)
     case atStart=>exact⟨M,0,by rw[HL0.out];rfl,rfl,OD,CS,KD,by omega⟩
     case round=>
      obtain⟨R,q,rfl,rfl,O,CS,KP,hgg⟩:=hrel;have HG2:=qaa hgg;clear hgg OD KD;have hml:=CS.out.ml;have hle:=CS.out.le;have hRl:=CS.out.ln;have hn2v:=HN2.out;by_cases hq:q+1<n2
      ·have hq':(q:Int)+1<(n2:Int):=by omega
       have hqq:(q:Int)<(n2:Int):=by omega
       have hqn:q<n2:=by omega
       have hm:k+1+(q+1)<M.length:=by omega
       clear hn2v;have v1:IntKind.i64.wrap ((q:Int)+1-1)=(q:Int):=by simp[IntKind.wrap,IntKind.bits,IntKind.signed];omega
       have v2:IntKind.i64.wrap ((q:Int)+1+1)=(q:Int)+1+1:=by simp[IntKind.wrap,IntKind.bits,IntKind.signed];omega
       have v3:IntKind.i64.wrap ((q:Int)+1)=(q:Int)+1:=by simp[IntKind.wrap,IntKind.bits,IntKind.signed];omega
       have v4:IntKind.i64.wrap (q:Int)=(q:Int):=qak _ (by omega);have r0:(0:Int)≤(q:Int)+1:=by omega
       have r1:((q:Int)+1).toNat=q+1:=by omega
       have g1:gQ R (k+1+(q+1))=gQ M (k+1+(q+1)):=CS.out.rs _ (by omega) hm;have g2:gQ R (k+1+q)=gQ M (k+1+q):=CS.out.rs _ (by omega) (by omega);obtain⟨a0,a1,_,_⟩:=O.out.at' (i:=k+1+(q+1)) (by omega) ((k+1)*2+(q+1)*2) ((k+1)*2+(q+1)*2+1) (by omega) (by omega);obtain⟨b0,b1,_,_⟩:=O.out.at' (i:=k+1+q) (by omega) ((k+1)*2+q*2) ((k+1)*2+q*2+1) (by omega) (by omega);rw[g1] at a0 a1;rw[g2] at b0 b1;have heq:=fun W=>qo8 (gQ M (k+1+(q+1))).1 (gQ M (k+1+(q+1))).2 (gQ M (k+1+q)).1 (gQ M (k+1+q)).2 W
       have hbe:((gQ M (k+1+(q+1))).1==(gQ M (k+1+q)).1&&(gQ M (k+1+(q+1))).2==(gQ M (k+1+q)).2)=true↔gQ M (k+1+(q+1))=gQ M (k+1+(q+1)-1):=by
        simp only[Bool.and_eq_true,beq_iff_eq];rw[show k+1+(q+1)-1=k+1+q by omega];exact⟨fun h=>Prod.ext h.1 h.2,fun h=>by rw[h];exact⟨rfl,rfl⟩⟩
       generalize ((gQ M (k+1+(q+1))).1==(gQ M (k+1+q)).1&&(gQ M (k+1+(q+1))).2==(gQ M (k+1+q)).2)=bb at heq hbe;have HBE:=qaa hbe;have OD:Hid (qa3 wr.drew base (.slice (some ⟨g,0,none⟩) M.length cap) R):=own_below O.out (Below.refl _ _).drew;have KD:=qaa (KP.out.trans (Kept.of_below (Below.refl _ _).drew));have hkm:(cpk M (k+1+(q+1))).length<M.length:=by omega
       cases bb with
       |true=>
        obtain⟨cs2,hl2⟩:=CS.out.same hm (HBE.out.1 rfl);have CS2:=qaa cs2;have HLE:Hid ((cpk M (k+1+(q+1+1))).length=(cpk M (k+1+(q+1))).length):=by unfold Hid;rw[show k+1+(q+1+1)=k+1+(q+1)+1 by omega,hl2]
        clear hbe cs2 hl2 g1 g2 hml hle hRl;generalize (cpk M (k+1+(q+1))).length=kk at *;go_wp2;go_region_held3 (fun V=>V.cell? ⟨g,(k+1)*2+(q+1)*2,none⟩=some (.int .i64 (gQ M (k+1+(q+1))).1)∧V.cell? ⟨g,(k+1)*2+(q+1)*2+1,none⟩=some (.int .i64 (gQ M (k+1+(q+1))).2)∧V.cell? ⟨g,(k+1)*2+q*2,none⟩=some (.int .i64 (gQ M (k+1+q)).1)∧V.cell? ⟨g,(k+1)*2+q*2+1,none⟩=some (.int .i64 (gQ M (k+1+q)).2)) (first|assumption|exact⟨a0,a1,b0,b1⟩|(simp[go_sem, *];done)) (first|fail);clear heq a0 a1 b0 b1;go_wp2;go_roundg (M.length-(q+1)+1)
        case measure=>have:=HG2.out;omega
        case rel=>exact⟨R,q+1,by rw[HLE.out],by first|rfl|go_num|(congr 1;omega),OD,CS2,KD,by omega⟩
       |false=>
        obtain⟨cs2,hl2⟩:=CS.out.other hm (fun h=>by have:=HBE.out.2 h;cases this);have CS2:=qaa cs2;have HLE:Hid ((cpk M (k+1+(q+1+1))).length=(cpk M (k+1+(q+1))).length+1):=by unfold Hid;rw[show k+1+(q+1+1)=k+1+(q+1)+1 by omega,hl2]
        obtain⟨_,_,f0,f1⟩:=O.out.cells (i:=(cpk M (k+1+(q+1))).length) (by omega);obtain⟨y0,y1,_,_⟩:=O.out.cells (i:=(cpk M (k+1+(q+1))).length) (by omega);obtain⟨o5,k5⟩:=OD.out.put (cpk M (k+1+(q+1))).length (gQ M (k+1+(q+1))) (by omega);have O5:=qaa o5;have K5:=qaa (KD.out.trans k5);have hkm':((cpk M (k+1+(q+1))).length:Int)<(M.length:Int):=by omega
        have wk:IntKind.i64.wrap (((cpk M (k+1+(q+1))).length:Int)+1)=((cpk M (k+1+(q+1))).length:Int)+1:=by simp[IntKind.wrap,IntKind.bits,IntKind.signed];omega
        clear hbe cs2 hl2 g1 g2 hml hle hRl o5 k5;generalize (cpk M (k+1+(q+1))).length=kk at *;go_wp2;go_region_held3 (fun V=>V.cell? ⟨g,(k+1)*2+(q+1)*2,none⟩=some (.int .i64 (gQ M (k+1+(q+1))).1)∧V.cell? ⟨g,(k+1)*2+(q+1)*2+1,none⟩=some (.int .i64 (gQ M (k+1+(q+1))).2)∧V.cell? ⟨g,(k+1)*2+q*2,none⟩=some (.int .i64 (gQ M (k+1+q)).1)∧V.cell? ⟨g,(k+1)*2+q*2+1,none⟩=some (.int .i64 (gQ M (k+1+q)).2)) (first|assumption|exact⟨a0,a1,b0,b1⟩|(simp[go_sem, *];done)) (first|fail);clear heq b0 b1;go_wp2;go_roundg (M.length-(q+1)+1)
        case measure=>have:=HG2.out;omega
        case rel=>exact⟨_,q+1,by rw[HLE.out];first|rfl|go_num,by first|rfl|go_num|(congr 1;omega),O5,CS2,K5,by omega⟩
      ·have hq':¬(q:Int)+1<(n2:Int):=by omega
       have hmn:k+1+(q+1)=M.length:=by omega
       have CS3:=CS.out;rw[hmn] at CS3 hle ⊢;have hcl:=fun ty=>qob ty wr g ((cpk M M.length).length*2) (M.length-(cpk M M.length).length) (cap-(cpk M M.length).length) (by omega) (fun j hj=>by
        have hi:((cpk M M.length).length*2+j)/2<R.length:=by omega
        obtain⟨z0,z1,_,_⟩:=O.out.cells hi;rcases Nat.mod_two_eq_zero_or_one ((cpk M M.length).length*2+j) with hm2|hm2
        ·rw[show((cpk M M.length).length*2+j)/2*2=(cpk M M.length).length*2+j by omega] at z0
         rw[z0];rfl
        ·rw[show((cpk M M.length).length*2+j)/2*2+1=(cpk M M.length).length*2+j by omega] at z1
         rw[z1];rfl) (fun j hj=>by
        have hi:((cpk M M.length).length*2+j)/2<R.length:=by omega
        obtain⟨_,_,z0,z1⟩:=O.out.cells hi;rcases Nat.mod_two_eq_zero_or_one ((cpk M M.length).length*2+j) with hm2|hm2
        ·rw[show((cpk M M.length).length*2+j)/2*2=(cpk M M.length).length*2+j by omega] at z0
         exact z0
        ·rw[show((cpk M M.length).length*2+j)/2*2+1=(cpk M M.length).length*2+j by omega] at z1
         exact z1)
       have os:=O.out.short (k:=(cpk M M.length).length) (by omega);rw[CS3.tk] at os;obtain⟨o6,k6⟩:=qa3.behind (List.replicate ((M.length-(cpk M M.length).length)*2) (.int .i64 0)) ((cpk M M.length).length*2) wr (Nat.le_refl _) os;have O6:=qaa o6;have K6:=qaa (KP.out.trans k6);have hk1:((cpk M M.length).length:Int)≤(M.length:Int):=by omega
       have hk2:((cpk M M.length).length:Int)≤(cap:Int):=by omega
       have hk3:(cpk M M.length).length≤M.length:=by omega
       have hk4:(cpk M M.length).length≤cap:=by omega
       have hk5:¬cap=(cpk M M.length).length:=by omega
       have hk6:¬(cap:Int)=((cpk M M.length).length:Int):=by omega
       clear os o6 k6 hn2v hml hle hRl CS3 hmn;generalize hkk:(cpk M M.length).length=kk at *;have HKK:=qaa hkk;clear hkk;go_wp2;go_ret;rw[HKK.out];exact⟨rfl,O6.out,K6.out⟩
   ·have hkn':¬(k:Int)+1<(M.length:Int):=by omega
    have e:Hid (cpk M M.length=M):=by
     unfold Hid;have e:M.length=k+1:=by omega
     have:=CT.out;rw[←e,List.take_length] at this;exact this
    go_wp2;go_ret;rw[e.out];exact⟨rfl,O.out,KP.out⟩
def PLt (s t:Spn):Prop:=s.1<t.1∨(s.1=t.1∧s.2<t.2)
structure RoS (L P:List Spn):Prop where
 up:P.Pairwise PLt
 mem:∀x,x∈P↔x∈L
theorem qg4 {M:List Spn}:∀k,∀x,x∈cpk M k↔∃j,j<k∧gQ M j=x
 |0,x=>by
  unfold cpk;exact⟨fun h=>(List.not_mem_nil h).elim,fun⟨j,hj,_⟩=>by omega⟩
 |k+1,x=>by
  have ih:=qg4 (M:=M) k x;unfold cpk;split
  ·rename_i h
   rw[ih];constructor
   ·rintro⟨j,h1,h2⟩
    exact⟨j,by omega,h2⟩
   ·rintro⟨j,h1,h2⟩
    by_cases e:j=k
    ·subst e
     exact⟨j-1,by omega,by rw[←h.2,h2]⟩
    ·exact⟨j,by omega,h2⟩
  ·rw[List.mem_append,ih,List.mem_singleton]
   constructor
   ·rintro(⟨j,h1,h2⟩|rfl)
    ·exact⟨j,by omega,h2⟩
    ·exact⟨k,by omega,rfl⟩
   ·rintro⟨j,h1,h2⟩
    by_cases e:j=k
    ·subst e
     exact .inr h2.symm
    ·exact .inl ⟨j,by omega,h2⟩
theorem sorted_at {M:List Spn} (hs:M.Pairwise PLe) {i j:Nat} (hij:i<j) (hj:j<M.length):PLe (gQ M i) (gQ M j):=by
 rw[qch (by omega),qch hj];exact List.pairwise_iff_getElem.1 hs i j (by omega) hj hij
theorem qmd {M:List Spn} (hs:M.Pairwise PLe):∀k,k≤M.length→(cpk M k).Pairwise PLt
 |0,_=>by unfold cpk;exact List.Pairwise.nil
 |k+1,hk=>by
  have ih:=qmd hs k (by omega);unfold cpk;split
  ·exact ih
  ·rename_i h
   refine List.pairwise_append.2 ⟨ih,List.pairwise_singleton _ _,fun x hx y hy=>?_⟩;rw[List.mem_singleton.1 hy];obtain⟨j,hj,rfl⟩:=(qg4 k x).1 hx;have h0:0<k:=by omega
   have hne:¬gQ M k=gQ M (k-1):=fun e=>h ⟨h0,e⟩
   have h1:=sorted_at hs (show k-1<k by omega) (by omega);have h2:PLe (gQ M j) (gQ M (k-1)):=by
    by_cases e:j=k-1
    ·rw[e];exact .inr ⟨rfl,Int.le_refl _⟩
    ·exact sorted_at hs (by omega) (by omega)
   have h3:¬((gQ M k).1=(gQ M (k-1)).1∧(gQ M k).2=(gQ M (k-1)).2):=fun e=>hne (Prod.ext e.1 e.2)
   unfold PLe at h1 h2;unfold PLt;omega
theorem qm4 {L M:List Spn} (hp:M.Perm L) (hs:M.Pairwise PLe):RoS L (cpk M M.length):=by
 refine⟨qmd hs _ (Nat.le_refl _),fun x=>?_⟩;rw[qg4,←hp.mem_iff];constructor
 ·rintro⟨j,hj,rfl⟩
  rw[qch hj];exact List.getElem_mem hj
 ·intro h
  obtain⟨j,hj,rfl⟩:=List.getElem_of_mem h;exact⟨j,hj,qch hj⟩
theorem qa3.mono {w:World} {base base':Nat} {v:Value} {L:List Spn} (h:qa3 w base v L) (hb:base'≤base):qa3 w base' v L:=by
 refine⟨h.1,?_⟩;rcases h.2 with h|⟨g',c',cur,e,hb2,r⟩
 ·exact .inl h
 ·exact .inr ⟨g',c',cur,e,by omega,r⟩
set_option maxRecDepth 100000 in
set_option maxHeartbeats 4000000 in
theorem qig (base g cap:Nat) (L:List Spn) (w:World) (h0:0<L.length) (hl:L.length≤65536) (ho:qa3 w base (.slice (some ⟨g,0,none⟩) L.length cap) L):
 Calls Tryz.prog 60 #[.slice (some ⟨g,0,none⟩) L.length cap] w fun e w'=>(∃g' c' P,e=.returned (.slice (some ⟨g',0,none⟩) P.length c')∧qa3 w' w.heap.size (.slice (some ⟨g',0,none⟩) P.length c') P∧RoS L P)∧Below w.heap.size w w':=by
 have HC:=qaa (qid base g cap L w hl ho);clear ho;go_enter Tryz.func60,Tryz.ntmps60;go_upto_region 2 with(go_at_call 95;refine HC.out.mono ?_;rintro e w1 ⟨⟨v1,rfl,o1⟩,x1⟩;obtain⟨a1,c1,hv1,hs1⟩:=qag (show w1.ownsRow _ 48 2 _ L.length (qam L) from o1);obtain⟨g1,hg1⟩:=hs1 h0;subst hg1 hv1;have O1:=qaa o1;have X1:=qaa x1;clear o1 x1 hs1)
 have HS:=qaa (qjj w1 w.heap.size g1 c1 L O1.out (by omega));clear HC;go_upto_region 3 with(go_at_call 96;refine HS.out.mono ?_;rintro e w2 ⟨rfl,M,hp,hs,o2,k2⟩;have HPM:=qaa hp;have HSM:=qaa hs;have O2:=qaa o2;have K2:=qaa k2;clear hp hs o2 k2)
 have hml:M.length=L.length:=HPM.out.length_eq;have HCP:Hid (Calls Tryz.prog 99 #[.slice (some ⟨g1,0,none⟩) L.length c1] w2 fun e w'=>e=.returned (.slice (some ⟨g1,0,none⟩) (cpk M M.length).length c1)∧qa3 w' w.heap.size (.slice (some ⟨g1,0,none⟩) (cpk M M.length).length c1) (cpk M M.length)∧Kept (fun k=>k=g1) w2 w'):=by
  have o2:=O2.out;rw[←hml] at o2;have:=qg3 w.heap.size g1 c1 M w2 (by omega) (by omega) o2;rw[hml] at this ⊢;exact this
 have HGE:=qaa (World.ownsRow.lt (show w1.ownsRow w.heap.size 48 2 (.slice (some ⟨g1,0,none⟩) L.length c1) L.length (qam L) from O1.out) g1 rfl).1;clear HS hml;go_wp2_with (go_at_call 99;refine HCP.out.mono ?_;rintro e w3 ⟨rfl,o3,k3⟩;have O3:=qaa o3;have K3:=qaa k3;clear o3 k3);go_ret;refine⟨⟨g1,c1,cpk M M.length,rfl,O3.out,qm4 HPM.out HSM.out⟩,?_⟩;have hge:=HGE.out;exact X1.out.trans ((K2.out.trans K3.out).below X1.out.size (fun i hi=>by omega))
theorem addr_add (b off n:Nat):(⟨b,off,none⟩:Addr).add n=⟨b,off+n,none⟩:=by unfold Addr.add;split<;>simp_all
theorem qli {w w':World} {v v':Value} (h:qbb w w' v v'):∃F:Nat→Prop,Kept F w w'∧(∀k,F k→v.ownBlock=some k):=by
 rcases h with⟨g,a,b,c⟩|⟨a,b⟩
 ·exact⟨fun k=>some g=some k,qae c,fun k hk=>a.trans hk⟩
 ·exact⟨fun _=>False,Kept.of_below (qad a),fun k hk=>hk.elim⟩
def slen:Value→Nat
 |.slice _ n _=>n
 |_=>0
theorem qhn {W:World} {g:Nat} {x y z u:Value} {T:TypeId} (B:W.heap[g]? =some (.cells #[x,y,z,u] T (0,0))):W.cell? ⟨g,0,none⟩=some x∧W.cell? ⟨g,1,none⟩=some y∧W.cell? ⟨g,2,none⟩=some z∧W.cell? ⟨g,3,none⟩=some u:=by
 refine⟨?_,?_,?_,?_⟩<;>(rw[cell_of_row _ _ _ _ _ _ B];rfl)
section
variable {rb:Nat} {s r1:By} {w0:World} {v:Value} {A:List Spn} {r:By} {n:Nat} {wr:World}
def More (A:List Spn) (r:By):Prop:=(!A.isEmpty&&[93].isPrefixOf r)=false
end
structure PcS (rb:Nat) (s:By) (w:World) (r:By) (W:World):Prop where
 rd:RdS W rb s r
 res:W.heap[w.heap.size]? =some (.cells #[.int .i64 0,.int .i64 0,.bool false,.slice none 0 0] 96 (0,0))
 kept:Kept (fun k=>k=rb) w W
 rbl:rb<w.heap.size
section
variable {rb:Nat} {s r t:By} {w W W':World}
theorem PcS.skip (h:PcS rb s w r W) (r3:RdS W' rb s t) (k3:Kept (fun k=>k=rb) W W'):PcS rb s w t W':=
 ⟨r3,(k3.block _ (lt_of_block h.res) (by have:=h.rbl;omega)).trans h.res,h.kept.trans k3,h.rbl⟩
theorem PcS.st (h:PcS rb s w r W) (x y z u:Value):
 (W.cell? ⟨w.heap.size,0,none⟩=some (.int .i64 0)∧W.frozen? ⟨w.heap.size,0,none⟩=false∧(W.setCell ⟨w.heap.size,0,none⟩ x).cell? ⟨w.heap.size,1,none⟩=some (.int .i64 0)∧(W.setCell ⟨w.heap.size,0,none⟩ x).frozen? ⟨w.heap.size,1,none⟩=false∧
 ((W.setCell ⟨w.heap.size,0,none⟩ x).setCell ⟨w.heap.size,1,none⟩ y).cell? ⟨w.heap.size,2,none⟩=some (.bool false)∧((W.setCell ⟨w.heap.size,0,none⟩ x).setCell ⟨w.heap.size,1,none⟩ y).frozen? ⟨w.heap.size,2,none⟩=false∧
 (((W.setCell ⟨w.heap.size,0,none⟩ x).setCell ⟨w.heap.size,1,none⟩ y).setCell ⟨w.heap.size,2,none⟩ z).cell? ⟨w.heap.size,3,none⟩=some (.slice none 0 0)∧(((W.setCell ⟨w.heap.size,0,none⟩ x).setCell ⟨w.heap.size,1,none⟩ y).setCell ⟨w.heap.size,2,none⟩ z).frozen? ⟨w.heap.size,3,none⟩=false)∧
 (((((W.setCell ⟨w.heap.size,0,none⟩ x).setCell ⟨w.heap.size,1,none⟩ y).setCell ⟨w.heap.size,2,none⟩ z).setCell ⟨w.heap.size,3,none⟩ u).cell? ⟨w.heap.size,0,none⟩=some x∧((((W.setCell ⟨w.heap.size,0,none⟩ x).setCell ⟨w.heap.size,1,none⟩ y).setCell ⟨w.heap.size,2,none⟩ z).setCell ⟨w.heap.size,3,none⟩ u).cell? ⟨w.heap.size,1,none⟩=some y∧
  ((((W.setCell ⟨w.heap.size,0,none⟩ x).setCell ⟨w.heap.size,1,none⟩ y).setCell ⟨w.heap.size,2,none⟩ z).setCell ⟨w.heap.size,3,none⟩ u).cell? ⟨w.heap.size,2,none⟩=some z∧((((W.setCell ⟨w.heap.size,0,none⟩ x).setCell ⟨w.heap.size,1,none⟩ y).setCell ⟨w.heap.size,2,none⟩ z).setCell ⟨w.heap.size,3,none⟩ u).cell? ⟨w.heap.size,3,none⟩=some u)∧
 RdS ((((W.setCell ⟨w.heap.size,0,none⟩ x).setCell ⟨w.heap.size,1,none⟩ y).setCell ⟨w.heap.size,2,none⟩ z).setCell ⟨w.heap.size,3,none⟩ u) rb s r∧Kept (fun k=>k=rb) w ((((W.setCell ⟨w.heap.size,0,none⟩ x).setCell ⟨w.heap.size,1,none⟩ y).setCell ⟨w.heap.size,2,none⟩ z).setCell ⟨w.heap.size,3,none⟩ u)∧Kept (fun k=>k=w.heap.size) W ((((W.setCell ⟨w.heap.size,0,none⟩ x).setCell ⟨w.heap.size,1,none⟩ y).setCell ⟨w.heap.size,2,none⟩ z).setCell ⟨w.heap.size,3,none⟩ u):=by
 obtain⟨c0,f0,c1,f1,c2,f2,c3,f3,B6,k6⟩:=st4 h.res x y z u;refine⟨⟨c0,f0,c1,f1,c2,f2,c3,f3⟩,qhn B6,h.rd.kept k6 (by have:=h.rbl;omega),Kept.trans_new h.kept k6 (fun i hi hg=>by rw[hg] at hi;exact absurd hi (Nat.lt_irrefl _)),k6⟩
end
structure PD where
 p:Pc
 so:Option Addr
 sc:Nat
def PD.v (d:PD):Value:=.slice d.so d.p.set.length d.sc
def PD.cells (d:PD):List Value:=[.int .i64 d.p.kind,.int .i64 d.p.b,.bool d.p.no,d.v]
def qck (D:List PD):List Value:=D.flatMap PD.cells
structure qph (w:World) (base:Nat) (v:Value) (D:List PD):Prop where
 row:w.ownsRow base 96 4 v D.length (qck D)
 sets:∀d∈D,qn0 w base d.v d.p.set
 apart:D.Pairwise (fun d e=>∀k,d.v.ownBlock=some k→¬e.v.ownBlock=some k)
theorem Tryz.info96:(Tryz.prog.info? 96).map (fun i=>(i.zero,i.size,i.bytes))=some (some (.agg #[.int .i64 0,.int .i64 0,.bool false,.slice none 0 0]),4,48):=by kernel_rfl
theorem info_parts {t:TypeId} {z:Value} {s b:Nat} (h:(Tryz.prog.info? t).map (fun i=>(i.zero,i.size,i.bytes))=some (some z,s,b)):∃i,Tryz.prog.info? t=some i∧i.zero=some z∧i.size=s∧i.bytes=b:=by
 cases hi:Tryz.prog.info? t with
 |none=>rw[hi] at h;cases h
 |some i=>rw[hi] at h;simp at h;exact⟨i,rfl,h.1,h.2.1,h.2.2⟩
section
variable {s:By} {w0:World} {v:Value} {D:List PD} {r:By} {n:Nat} {wr:World}
end
def qe2 (w:World) (ao:Option Addr) (D:List PD):Prop:=D=[]∨∃b off,ao=some ⟨b,off,none⟩∧b<w.heap.size∧∀i (h:i<D.length),w.cell? ⟨b,off+i*4,none⟩=some (.int .i64 D[i].p.kind)∧w.cell? ⟨b,off+i*4+1,none⟩=some (.int .i64 D[i].p.b)∧w.cell? ⟨b,off+i*4+2,none⟩=some (.bool D[i].p.no)∧w.cell? ⟨b,off+i*4+3,none⟩=some (.slice D[i].so D[i].p.set.length D[i].sc)∧qge w D[i].so D[i].p.set
theorem qe2.below {w w':World} {ao:Option Addr} {D:List PD} (h:qe2 w ao D) (hb:Below w.heap.size w w'):qe2 w' ao D:=by
 rcases h with rfl|⟨b,off,e,hlt,h⟩
 ·exact .inl rfl
 ·refine .inr ⟨b,off,e,Nat.lt_of_lt_of_le hlt hb.size,fun i hi=>?_⟩
  obtain⟨a0,a1,a2,a3,a4⟩:=h i hi;exact⟨(hb.cell (p:=⟨b,_,none⟩) hlt).trans a0,(hb.cell (p:=⟨b,_,none⟩) hlt).trans a1,(hb.cell (p:=⟨b,_,none⟩) hlt).trans a2,(hb.cell (p:=⟨b,_,none⟩) hlt).trans a3,a4.below hb⟩
theorem qg5 (D:List PD) (i:Nat) (h:i<D.length):(qck D)[i*4]? =some (.int .i64 D[i].p.kind)∧(qck D)[i*4+1]? =some (.int .i64 D[i].p.b)∧(qck D)[i*4+2]? =some (.bool D[i].p.no)∧(qck D)[i*4+3]? =some D[i].v:=by
 induction D generalizing i with
 |nil=>simp at h
 |cons d D ih=>
  have e:qck (d::D)=.int .i64 d.p.kind::.int .i64 d.p.b::.bool d.p.no::d.v::qck D:=by simp[qck,PD.cells]
  rw[e];cases i with
  |zero=>simp
  |succ i=>
   have:=ih i (by simpa using h);rw[show(i+1)*4=i*4+4 by omega];simpa using this
theorem qph.at {w:World} {base:Nat} {v:Value} {D:List PD} (h:qph w base v D):∃ao cap,v=.slice ao D.length cap∧D.length≤cap∧qe2 w ao D:=by
 rcases h.row.2 with⟨rfl,hn⟩|⟨g,cap,cur,rfl,hb,hg,hnc,_⟩
 ·exact⟨none,0,by rw[hn],by omega,.inl (List.eq_nil_of_length_eq_zero hn)⟩
 ·refine⟨_,cap,rfl,hnc,.inr ⟨g,0,rfl,lt_of_block hg,fun i hi=>?_⟩⟩
  obtain⟨g0,g1,g2,g3⟩:=qg5 D i hi;rw[Nat.zero_add,World.ownsRow.cellAt h.row (i*4) (by omega),World.ownsRow.cellAt h.row (i*4+1) (by omega),World.ownsRow.cellAt h.row (i*4+2) (by omega),World.ownsRow.cellAt h.row (i*4+3) (by omega)];obtain⟨ao',c',e',h',_⟩:=(h.sets _ (List.getElem_mem hi)).shape;have e2:D[i].so=ao':=by unfold PD.v at e';injection e'
  exact⟨g0,g1,g2,g3,by rw[e2];exact h'⟩
def mk (f:Nat→Bool):Array Value:=((List.range 65).map fun i=>Value.bool (f i)).toArray
theorem qaq (f:Nat→Bool):(mk f).size=65:=by simp[mk]
theorem qb8 (f:Nat→Bool) (i:Nat) (h:i<65):(mk f)[i]? =some (.bool (f i)):=by simp[mk,h]
def upd (f:Nat→Bool) (i:Nat):Nat→Bool:=fun j=>if j=i then true else f j
theorem qfs (f:Nat→Bool) (i:Nat):(mk f).set! i (.bool true)=mk (upd f i):=by
 apply Array.ext_getElem?;intro j;unfold mk upd;by_cases hj:j<65
 ·by_cases hi:i=j
  ·subst hi;simp[hj]
  ·have:¬j=i:=fun h=>hi h.symm
   simp[hj,hi,this]
 ·simp[hj]
theorem qcy (f:Nat→Bool):(mk f).all (·.oneCell')=true:=by simp[mk,Value.oneCell']
theorem Tryz.info121:(Tryz.prog.info? 121).map (fun i=>(i.zero,i.size))=some (some (.agg (mk fun _=>false)),65):=by kernel_rfl
def qa8 (k:Int):Bool:=decide (k=4)||decide (k=5)
set_option maxRecDepth 100000 in
theorem qe3 (k b:Int) (no:Bool) (so:Option Addr) (n c:Nat) (w:World):Calls Tryz.prog 103 #[.agg #[.int .i64 k,.int .i64 b,.bool no,.slice so n c]] w fun e w'=>e=.returned (.bool (qa8 k))∧Below w.heap.size w w':=by
 by_cases h4:k=4
 ·have HE:Hid (qa8 k=true):=by simp[Hid,qa8,h4]
  go_enter Tryz.func103,Tryz.ntmps103;go_wp2;go_ret;exact⟨by rw[HE.out];rfl,al (Below.refl _ _) _⟩
 ·by_cases h5:k=5
  ·have HE:Hid (qa8 k=true):=by simp[Hid,qa8,h5]
   go_enter Tryz.func103,Tryz.ntmps103;go_wp2;go_ret;exact⟨by rw[HE.out];rfl,al (Below.refl _ _) _⟩
  ·go_enter Tryz.func103,Tryz.ntmps103
   go_wp2;go_ret;refine⟨?_,al (Below.refl _ _) _⟩;show Ending.returned (Value.bool (k==4||k==5))=_;simp[qa8,h4,h5]
def clF (L:List Pc) (f:Nat→Bool):Nat→(Nat→Bool)
 |0=>f
 |k+1=>if clF L f k k&&qa8 ((L.getD k ⟨0,0,false,[]⟩).kind) then upd (clF L f k) (k+1) else clF L f k
end Go.Proofs.YtdgoilkgplnhfaaGreat

