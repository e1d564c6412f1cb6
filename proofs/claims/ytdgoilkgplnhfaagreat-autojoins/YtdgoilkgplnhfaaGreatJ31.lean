/-
  explored by its contract: the states to which a first one leads, or that there are more than 256. Condition: at most 256 columns.
-/
import Derived.Test.YtdgoilkgplnhfaaGreatJ30
import Derived.Test.YtdgoilkgplnhfaaGreatJ15
namespace Go.Proofs.YtdgoilkgplnhfaaGreat
open Go.RowKit Go.Lib Go.Maps
def qjx {S:Type} (val:S→Array Value) (V:S→Prop) (z:S) (fo:S→Nat→S) (M:Nat) (base:Nat) (e:Ending) (w:World):Prop:=
 (∃sv xv St NX,e=.returned (.tuple #[sv,xv,.bool true])∧ExD z fo M St NX∧St.length≤256∧(∀s∈St,V s)∧w.ownsRow base 80 65 sv St.length (oC val St)∧qan w base xv NX∧∀b,sv.ownBlock=some b→¬xv.ownBlock=some b)∨
 (e=.returned (.tuple #[.slice none 0 0,.slice none 0 0,.bool false])∧qeh z fo M)
set_option maxRecDepth 100000 in
set_option maxHeartbeats 8000000 in
theorem qlr {S:Type} (M:Nat) (c0 c1 c2:Value) (z:S) (val:S→Array Value) (lit:S→Lit) (V:S→Prop) (fo:S→Nat→S) (w:World) (hM:M≤256) (hVz:V z) (hVf:∀s c,V s→c<M→V (fo s c)) (hvs:∀s,V s→(val s).size=65) (hva:∀s,V s→(val s).all (·.oneCell')=true)
 (hk:∀s,V s→keyOf Tryz.prog 80 (.agg (val s))=some (lit s)) (hkl:∀s,V s→WideAt.IsKeyLit (lit s)) (hinj:∀s t,V s→V t→lit s=lit t→s=t)
 (hc:∀s c,V s→c<M→∀W,Below w.heap.size w W→Calls Tryz.prog 46 #[.agg (val s),.int .i64 (c:Nat),c0,c1,c2] W fun e w'=>e=.returned (.agg (val (fo s c)))∧Below W.heap.size W w'):
 Calls Tryz.prog 44 #[.agg (val z),.int .i64 (M:Nat),.func (.func 46) #[] #[c0,c1,c2]] w fun e w'=>qjx val V z fo M w.heap.size e w'∧Below w.heap.size w w':=by
 obtain⟨i3,hi3,hz30,hz31,hz32⟩:=info_parts Tryz.info3n;obtain⟨iT,hiT,hzT0,hzT1,hzT2⟩:=info_parts Tryz.info80b;have hz0:∀W,(zeroValue 3).run Tryz.prog W=.ok (.int .i64 0) W:=fun W=>Tryz.zeroValue3 W
 have hmm:∀W:World,(Instr.makeMap 135 none).run Tryz.prog W=.ok (.map (some W.heap.size)) (W.alloc (.map #[] 0)):=fun W=>rfl
 have HC:=qaa hc;have HK:=qaa hk;have HKL:=qaa hkl;have HVS:=qaa hvs;have HVA:=qaa hva;have HVF:=qaa hVf;have HVZ:=qaa hVz;have HIN:=qaa hinj;obtain⟨hzv,hsz⟩:=zero_of_info Tryz.info80;obtain⟨zz,hzz⟩:∃zz:Array Value,Hid (zz=(mk fun _=>false)):=⟨_,rfl⟩;have HZS:Hid (zz.size=65):=by unfold Hid;rw[hzz.out];simp[mk]
 rw[←hzz.out] at hzv hzT0;have HSZ:=qaa hsz;clear hc hk hkl hvs hva hVf hVz hinj hsz;obtain⟨a,ha⟩:∃a,Hid (a=val z):=⟨_,rfl⟩;have HAS:Hid (a.size=65):=by unfold Hid;rw[ha.out];exact HVS.out z HVZ.out
 have HAK:Hid (keyOf Tryz.prog 80 (.agg a)=some (lit z)):=by unfold Hid;rw[ha.out];exact HK.out z HVZ.out
 have HAI:Hid ((Tryz.prog.info? 80).map (·.size)=some a.size):=by unfold Hid;rw[HSZ.out,HAS.out]
 have hias:iT.size=a.size:=by rw[hzT1,HAS.out]
 rw[←ha.out];have X1:Below w.heap.size w (w.alloc (.cells a 80)):=al (Below.refl _ _) _;have B1:=heap_alloc_new w (.cells a 80);have E1:(w.alloc (.cells a 80)).heap.size=w.heap.size+1:=by simp
 have hw1:∃w1,w1=w.alloc (.cells a 80):=⟨_,rfl⟩;obtain⟨w1,hw1⟩:=hw1;rw[←hw1] at X1 B1 E1;have HE1:=qaa E1;clear E1;go_enter Tryz.func44,Tryz.ntmps44;go_upto_region 1 with fail
 rw[←hw1];clear hw1;have X2:Below w1.heap.size w1 (w1.alloc (.map #[] 0)):=al (Below.refl _ _) _;have B2:=qaa ((X2.block _ (lt_of_block B1)).trans B1);obtain⟨D0,hown0,hh0,ha0⟩:=qc4.made 80 w1;have HPL:Hid (plainElem (H:=Unit) Tryz.prog 3 (.int .i64 0)=some (.lit (.int .i64 0),[])):=plainElem_int Tryz.underlying3 (by simp[Lit.wf,IntKind.min,IntKind.max,IntKind.signed,IntKind.bits]);have HOWN:=qaa hown0;have HML:Hid (([]:List Lit).length<maxLen):=by unfold Hid maxLen;decide
 have HB1:=qaa B1;have HX12:=qaa (bt X1 X2 (Nat.le_refl _));have HKZ:=qaa (HKL.out z HVZ.out);have HINS:Hid (∀w3,w3.ownsMap Tryz.prog 80 (plainElem Tryz.prog 3) w1.heap.size (0+1) (D0.put (lit z) (.lit (.int .i64 0)))→(w1.alloc (.map #[] 0)).mapTurned w3 w1.heap.size→qc4 80 w3 w1.heap.size [lit z]∧w3.heap[w.heap.size]? =some (.cells a 80 (0,0))∧Below w.heap.size w w3):=fun w3 h1 t4=>by
  have k4:Kept (fun b=>b=w1.heap.size) (w1.alloc (.map #[] 0)) w3:=(qae t4.grown).mono (fun b hb=>by injection hb with hb;exact hb.symm);refine⟨qc4.put HKZ.out List.not_mem_nil hown0.isMap hh0 ha0 h1,(k4.block _ (lt_of_block B2.out) (by have:=HE1.out;omega)).trans B2.out,HX12.out.trans (k4.below HX12.out.size (fun i hi=>by have:=HE1.out;omega))⟩
 clear X1 B1 X2 hown0 hh0 ha0;go_upto_region 2 with(first
  |(refine wpList_load_row rfl 80 (.tmp 3) rfl w.heap.size rfl 80 a (0,0) _ B2.out Tryz.underlying80 rfl HAI.out ?_)
  |(refine qcg rfl _ _ _ 135 rfl 80 3 qcn Tryz.underlying135 _ w1.heap.size _ D0 rfl HOWN.out HML.out _ _ _ rfl rfl HAK.out _ [] HPL.out ?_;intro w3 h3 t3;obtain⟨m3,b3,x3⟩:=HINS.out w3 h3 t3;have M3:=qaa m3;have B3:=qaa b3;have X3:=qaa x3;clear h3 t3 m3 b3 x3))
 have X4:Below w3.heap.size w3 (w3.alloc (.cells a 80)):=al (Below.refl _ _) _;have XX:Hid (XM 80 65 val w w1.heap.size [lit z] (.slice (some ⟨w3.heap.size,0,none⟩) 1 1) (.slice none 0 0) [z] [] (w3.alloc (.cells a 80))):=by
  refine⟨M3.out.below X4,?_,qan.nil _ _,fun b _ h=>(by cases h),(by have:=HE1.out;omega),bt X3.out X4 (Nat.le_refl _)⟩;refine⟨by rw[qi8 (K:=65) [z] (fun s hs=>by rw[List.mem_singleton.1 hs];exact HVS.out z HVZ.out)],.inr ⟨w3.heap.size,1,a,rfl,X3.out.size,heap_alloc_new _ _,Nat.le_refl _,by decide,by rw[HAS.out],?_⟩⟩;simp only[oC,List.flatMap_cons,List.flatMap_nil,List.append_nil,List.length_singleton,←ha.out];rw[List.take_of_length_le (by rw[Array.length_toList,HAS.out];omega)]
 have EX:Hid (ExS z fo M [z] [] 0 0):=ExS.start;clear X4 HINS HOWN HX12 HB1 M3;go_upto_region 4 with(first
  |(refine wpList_load_row rfl 80 (.tmp 3) rfl w.heap.size rfl 80 a (0,0) _ B3.out Tryz.underlying80 rfl HAI.out ?_)
  |(refine qa7 rfl 75 80 (.tmp 20) rfl a rfl iT _ Tryz.underlying75 hiT hzT0 hias (by rw[HAS.out];decide) (by rw[HAS.out];decide) ?_))
 generalize w3.alloc (.cells a 80)=w4 at *;obtain⟨mb,hmb⟩:∃mb,mb=w1.heap.size:=⟨_,rfl⟩;rw[←hmb] at XX ⊢;clear hmb B3 X3 B2;go_wp2;go_loopg [10,11,12] 257 (fun g s x c wr=>∃(St:List S) (NX:List Nat) (k:Nat),c=.int .i64 (k:Nat)∧Hid (XM 80 65 val w mb (St.map lit) s x St NX wr)∧Hid (ExS z fo M St NX k 0)∧Hid (∀s∈St,V s)∧St.length≤256∧256-k<g)
 case atStart=>exact⟨[z],[],0,rfl,XX,EX,fun s hs=>by rw[List.mem_singleton.1 hs];exact HVZ.out,by simp,by omega⟩
 case round=>
  obtain⟨St,NX,k,rfl,MX,ES,HV,hSt,hg⟩:=hrel;have HG:=qaa hg;clear hg XX EX;by_cases hk:k<St.length
  ·have hk':(k:Int)<(St.length:Int):=by omega
   obtain⟨sg,scp,hsv,hcl⟩:=MX.out.cells (fun s hs=>HVS.out s (HV.out s hs)) hk;have w1k:IntKind.i64.wrap ((k:Int)+1)=((k+1:Nat):Int):=by rw[show(k:Int)+1=((k+1:Nat):Int) by simp];exact qak _ (by omega)
   obtain⟨xa,xc,hxv,_⟩:=qag (show _root_.Go.World.ownsRow _ _ 3 1 _ NX.length (qab NX) from MX.out.o2);subst hsv hxv;clear hcl;go_wp2;go_loopg [10,11,29] (M+1) (fun g s x c wr=>∃(St:List S) (NX:List Nat) (j:Nat),c=.int .i64 (j:Nat)∧Hid (XM 80 65 val w mb (St.map lit) s x St NX wr)∧Hid (ExS z fo M St NX k j)∧Hid (∀s∈St,V s)∧St.length≤256∧k<St.length∧M-j<g)
   case atStart=>exact⟨St,NX,0,rfl,MX,ES,HV,hSt,hk,by omega⟩
   case round=>
    obtain⟨St,NX,j,rfl,MX,ES,HV,hSt,hk,hg2⟩:=hrel;have HG2:=qaa hg2;clear hg2 hk';have hk':(k:Int)<(St.length:Int):=by omega
    obtain⟨sg,scp,hsv,hcl⟩:=MX.out.cells (fun s hs=>HVS.out s (HV.out s hs)) hk;obtain⟨xa,xc,hxv,_⟩:=qag (show _root_.Go.World.ownsRow _ _ 3 1 _ NX.length (qab NX) from MX.out.o2);subst hsv hxv;by_cases hj:j<M
    ·as_aux_lemma=>
     have hj':(j:Int)<(M:Int):=by omega
     have HCL:=qaa hcl;have hVk:=HV.out _ (List.getElem_mem hk);have H1:=qaa (HC.out St[k] j hVk hj wr MX.out.bel);have HVX:=qaa (HVF.out St[k] j hVk hj);obtain⟨x,hx⟩:∃x,Hid (x=fo St[k] j):=⟨fo St[k] j,qaa rfl⟩;rw[←hx.out] at H1 HVX;obtain⟨b,hb⟩:∃b,Hid (b=val St[k]):=⟨val St[k],qaa rfl⟩;rw[←hb.out] at H1 HCL;have HBI:Hid ((Tryz.prog.info? 80).map (·.size)=some b.size):=by unfold Hid;rw[HSZ.out,hb.out,HVS.out _ hVk]
     clear hcl hVk;go_wp2_with (refine qbr rfl 80 (.tmp 35) rfl ⟨sg,k*65,none⟩ rfl b _ HCL.out Tryz.underlying80 rfl HBI.out ?_);refine H1.out.mono ?_;rintro e w3 ⟨rfl,x3⟩;clear H1;obtain⟨m,hm⟩:∃m,Hid (m=val x):=⟨_,rfl⟩;rw[←hm.out];have HI:Hid ((Tryz.prog.info? 80).map (·.size)=some m.size):=by unfold Hid;rw[HSZ.out,hm.out,HVS.out _ HVX.out]
     have HZ2:Hid (zz.size=m.size):=by unfold Hid;rw[HZS.out,hm.out,HVS.out _ HVX.out]
     have HAL:Hid (m.all (·.oneCell')=true):=by unfold Hid;rw[hm.out];exact HVA.out _ HVX.out
     have HMS:Hid (m.size=65):=by unfold Hid;rw[hm.out,HVS.out _ HVX.out]
     have HK0:Hid (keyOf Tryz.prog 80 (.agg m)=some (lit x)):=by unfold Hid;rw[hm.out];exact HK.out _ HVX.out
     have HBZ:=qaa (heap_alloc_new w3 (.cells zz 80));have HBM:=heap_alloc_new w3 (.cells m 80);have y3:Below w3.heap.size w3 (w3.alloc (.cells m 80)):=al (Below.refl _ _) _;have S4:=MX.out.below (bt x3 y3 (Nat.le_refl _));have bb3:∃bb,bb=w3.heap.size:=⟨_,rfl⟩;clear x3 y3;go_upto_region 11 with(refine wpList_store_row rfl 80 (.tmp 14) (.tmp 38) rfl w3.heap.size m rfl rfl 80 zz HBZ.out HI.out HZ2.out HAL.out ?_;rw[World.setRow_alloc_new])
     generalize w3.alloc (.cells m 80)=w5 at *;obtain⟨bb,hbb⟩:=bb3;rw[←hbb] at HBM ⊢;clear hbb HBZ HCL;have HBM:=qaa HBM;have S3:=qaa S4;clear S4;obtain⟨D,hown,hh,ha⟩:=S3.out.map;have HOWN:=qaa hown;have HA:=qaa ha;have HHH:=qaa hh;have HES2:Hid (fo (gS z St k) j=x):=by unfold Hid;rw[qb2 hk,hx.out]
     by_cases hm2:lit x∈St.map lit
     ·have hhas:Maps.has D (lit x)=true:=(hh _).2 hm2
      have HHIT:Hid (∀c:Int,D.atKey (lit x) (.lit (.int .i64 0))=.lit (.int .i64 c)→∃n,n<St.length∧c=(n:Int)∧ExS z fo M St (NX++[n]) k (j+1)):=fun c hc=>by
       obtain⟨n,hn,e,rfl⟩:=qbz HA.out hc hm2;rw[List.length_map] at hn;refine⟨n,hn,rfl,ES.out.old hj hn ?_⟩;rw[HES2.out,qb2 hn];rw[List.getElem_map] at e;exact HIN.out _ _ (HV.out _ (List.getElem_mem hn)) HVX.out e
      have hle:¬(256:Int)<(St.length:Int):=by omega
      have hle2:¬256<St.length:=by omega
      clear hh ha;have HNXL:Hid (NX.length≤65536):=by
       unfold Hid;have h1:=ES.out.len;have h2:k*M≤256*256:=Nat.mul_le_mul (by omega) hM;have h3:=ES.out.jl;have h4:(k+1)*M≤256*256:=Nat.mul_le_mul (by omega) hM;rw[Nat.succ_mul] at h4;omega
      have O5:=qaa (fun n:Nat=>own_below (show w5.ownsRow w.heap.size 3 1 _ NX.length (qab NX) from S3.out.o2) (NmP.x5 w5 n));have HN5:=qaa (fun n:Nat=>qbi w5 n 3);have HS5:=qaa (fun n:Nat=>Nat.le_trans S3.out.bel.size (NmP.x5 w5 n).size);have HAP:=qaa (fun(n:Nat) (v6:Value) (w6:World) g1 g2=>(S3.out.below (NmP.x5 w5 n)).appX (v':=v6) (w':=w6) n g1 g2);have hnl:=HNXL.out;go_wp2_with (first
       |(refine wpList_load_row rfl 80 (.tmp 14) rfl bb rfl 80 m (0,0) _ HBM.out Tryz.underlying80 rfl HI.out ?_)
       |(at_lookup;refine wpList_lookup_own_ok_int _ rfl _ _ 135 rfl 80 3 .i64 qcn Tryz.underlying135 Tryz.underlying3 (hz0 _) mb _ D rfl HOWN.out _ _ rfl HK0.out ?_;intro c hat hwc;obtain⟨n,hn,rfl,he⟩:=HHIT.out c hat;have EN:=qaa he;have O6:=qaa (O5.out n);have HN6:=qaa (HN5.out n);have HS6:=qaa (HS5.out n);clear hat hwc he)
       |(at_builtin;refine qac rfl (.tmp 59) (.tmp 61) 22 rfl w.heap.size 3 i3 (.int .i64 0) 1 8 Tryz.underlying22 hi3 hz30 hz31 hz32 rfl (by decide) _ NX.length (qab NX) rfl O6.out ⟨w5.heap.size,0,none⟩ 1 1 [.int .i64 (n:Nat)] rfl rfl HN6.out (by simp[Value.oneCell']) (by decide) (by unfold maxLen;omega) (by omega) HS6.out ?_;intro v6 w6 g1 g2;have S6:=qaa (HAP.out n v6 w6 g1 g2);clear g1 g2))
      go_roundg (M-(j+1)+1)
      case measure=>have:=HG2.out;omega
      case rel=>exact⟨St,NX++[n],j+1,by first|rfl|go_num|(congr 1;omega),S6,EN,HV,hSt,hk,by omega⟩
     ·skip
      have hhas:Maps.has D (lit x)=false:=by
       cases hx2:Maps.has D (lit x) with
       |false=>rfl
       |true=>exact absurd ((hh _).1 hx2) hm2
      have HPL2:Hid (plainElem (H:=Unit) Tryz.prog 3 (.int .i64 (St.length:Int))=some (.lit (.int .i64 (St.length:Int)),[])):=plainElem_int Tryz.underlying3 (by simp[Lit.wf,IntKind.min,IntKind.max,IntKind.signed,IntKind.bits];omega);have HFN:Hid ((St.map lit).length<maxLen):=by unfold Hid maxLen;rw[List.length_map];omega
      have HPUT:Hid (∀w4:World,w4.ownsMap Tryz.prog 80 (plainElem Tryz.prog 3) mb ((St.map lit).length+1) (D.put (lit x) (.lit (.int .i64 (St.length:Int))))→w5.mapTurned w4 mb→XM 80 65 val w mb ((St++[x]).map lit) (.slice (some ⟨sg,0,none⟩) St.length scp) (.slice xa NX.length xc) St NX w4∧w4.heap[bb]? =some (.cells m 80 (0,0))):=fun w4 h1 t4=>by
       refine⟨?_,?_⟩
       ·rw[List.map_append]
        exact S3.out.put hm2 (HKL.out _ HVX.out) HHH.out HA.out HOWN.out (by rw[List.length_map] at h1 ⊢;exact h1) t4
       ·have k4:Kept (fun b=>b=mb) w5 w4:=(qae t4.grown).mono (fun b hb=>by injection hb with hb;exact hb.symm)
        refine(k4.block _ (lt_of_block HBM.out) (fun e=>?_)).trans HBM.out;obtain⟨es,cl,hmp⟩:=S3.out.map.blk;have h9:=HBM.out;rw[e,hmp] at h9;cases h9
      have HNE:Hid (∀a,a<St.length→gS z St a≠x):=fun a ha2 e=>hm2 (by rw[←e,qb2 ha2];exact List.mem_map.2 ⟨_,List.getElem_mem ha2,rfl⟩)
      have HNW:Hid (∀W:World,∀j u,m.toList[j]? =some u→(W.alloc (.cells m 80)).cell? ((⟨W.heap.size,0,none⟩:Addr).add j)=some u):=fun W j u hu=>by
       have e2:(⟨W.heap.size,0,none⟩:Addr).add j=⟨W.heap.size,j,none⟩:=by unfold Addr.add;split<;>simp_all
       rw[e2,cell_of_row _ _ _ _ _ _ (heap_alloc_new W (.cells m 80))];simpa using hu
      have HALm:Hid (∀u∈m.toList,u.oneCell'=true):=fun u hu=>by
       have h9:=HAL.out;rw[Array.all_eq_true'] at h9;exact h9 u (by simpa using hu)
      have HML2:Hid (m.toList.length=1*65):=by unfold Hid;rw[Array.length_toList,HMS.out]
      have HIM:Hid (iT.size=m.size):=by unfold Hid;rw[hzT1,HMS.out]
      have HX6:=qaa (fun W:World=>(al (Below.refl _ _) _:Below W.heap.size W (W.alloc (.cells m 80))));have HAPS:Hid (∀(w4:World) (v6:Value) (w6:World),XM 80 65 val w mb ((St++[x]).map lit) (.slice (some ⟨sg,0,none⟩) St.length scp) (.slice xa NX.length xc) St NX w4→w6.ownsRow w.heap.size 80 65 v6 (St.length+1) (oC val St++m.toList)→qbb (w4.alloc (.cells m 80)) w6 (.slice (some ⟨sg,0,none⟩) St.length scp) v6→XM 80 65 val w mb ((St++[x]).map lit) v6 (.slice xa NX.length xc) (St++[x]) NX w6):=fun w4 v6 w6 s g1 g2=>by
       rw[hm.out] at g1;exact(s.below (HX6.out w4)).appS x g1 g2
      clear hh ha;have hm0:0<m.size:=by rw[HMS.out];decide
      have hm1:m.size≤2^24:=by rw[HMS.out];decide
      have hzc:(Value.agg zz).cells.size=65:=HZS.out;by_cases hful:St.length=256
      ·as_aux_lemma=>
       have EM:Hid (qeh z fo M):=((ES.out.add hk hj HNE.out HES2.out.symm).many (by rw[List.length_append,List.length_singleton,hful]));have hle:(256:Int)<(St.length:Int)+1:=by omega
       have hle2:256<St.length+1:=by omega
       clear hful;go_wp2_with (first
       |(refine wpList_load_row rfl 80 (.tmp 14) rfl bb rfl 80 m (0,0) _ HBM.out Tryz.underlying80 rfl HI.out ?_)
       |(at_lookup;refine wpList_lookup_own_ok_int _ rfl _ _ 135 rfl 80 3 .i64 qcn Tryz.underlying135 Tryz.underlying3 (hz0 _) mb _ D rfl HOWN.out _ _ rfl HK0.out ?_;intro c hat hwc;clear hat hwc)
       |(at_mapUpdate;refine wpList_mapUpdate_in _ rfl _ _ _ 135 rfl 80 3 qcn Tryz.underlying135 _ mb _ D rfl HOWN.out HFN.out _ _ _ rfl rfl HK0.out _ [] HPL2.out ?_;intro w4 h4 t4;obtain⟨s4,b4⟩:=HPUT.out w4 h4 t4;have S4:=qaa s4;have B4:=qaa b4;have O4:=qaa (own_below S4.out.o1 (HX6.out w4));have HS4:=qaa (Nat.le_trans S4.out.bel.size (HX6.out w4).size);clear h4 t4 s4 b4)
       |(refine wpList_load_row rfl 80 (.tmp 14) rfl bb rfl 80 m (0,0) _ B4.out Tryz.underlying80 rfl HI.out ?_)
       |(refine qa7 rfl 75 80 (.tmp 53) rfl m rfl iT _ Tryz.underlying75 hiT hzT0 HIM.out hm0 hm1 ?_)
       |(at_builtin;refine qac rfl (.tmp 52) (.tmp 54) 75 rfl w.heap.size 80 iT (.agg zz) 65 65 Tryz.underlying75 hiT hzT0 hzT1 hzT2 hzc (by decide) _ St.length (oC val St) rfl O4.out ⟨w4.heap.size,0,none⟩ 1 1 m.toList rfl HML2.out (HNW.out w4) HALm.out (by decide) (by unfold maxLen;omega) (by omega) HS4.out ?_;intro v6 w6 g1 g2;have S6:=qaa (HAPS.out w4 v6 w6 S4.out g1 g2);obtain⟨a6,k6,hv6,_⟩:=qag g1;subst hv6;clear g1 g2))
       go_ret3;exact⟨.inr ⟨rfl,EM.out⟩,S6.out.bel⟩
      ·as_aux_lemma=>
       have EN:=qaa (ES.out.new hk hj HNE.out HES2.out.symm);have hle:¬(256:Int)<(St.length:Int)+1:=by omega
       have hle2:¬256<St.length+1:=by omega
       have hnl:NX.length≤65536:=by
        have h1:=ES.out.len;have h3:=ES.out.jl;have h4:(k+1)*M≤256*256:=Nat.mul_le_mul (by omega) hM;rw[Nat.succ_mul] at h4;omega
       go_wp2_with (first
       |(refine wpList_load_row rfl 80 (.tmp 14) rfl bb rfl 80 m (0,0) _ HBM.out Tryz.underlying80 rfl HI.out ?_)
       |(at_lookup;refine wpList_lookup_own_ok_int _ rfl _ _ 135 rfl 80 3 .i64 qcn Tryz.underlying135 Tryz.underlying3 (hz0 _) mb _ D rfl HOWN.out _ _ rfl HK0.out ?_;intro c hat hwc;clear hat hwc)
       |(at_mapUpdate;refine wpList_mapUpdate_in _ rfl _ _ _ 135 rfl 80 3 qcn Tryz.underlying135 _ mb _ D rfl HOWN.out HFN.out _ _ _ rfl rfl HK0.out _ [] HPL2.out ?_;intro w4 h4 t4;obtain⟨s4,b4⟩:=HPUT.out w4 h4 t4;have S4:=qaa s4;have B4:=qaa b4;have O4:=qaa (own_below S4.out.o1 (HX6.out w4));have HS4:=qaa (Nat.le_trans S4.out.bel.size (HX6.out w4).size);clear h4 t4 s4 b4)
       |(refine wpList_load_row rfl 80 (.tmp 14) rfl bb rfl 80 m (0,0) _ B4.out Tryz.underlying80 rfl HI.out ?_)
       |(refine qa7 rfl 75 80 (.tmp 53) rfl m rfl iT _ Tryz.underlying75 hiT hzT0 HIM.out hm0 hm1 ?_)
       |(at_builtin;refine qac rfl (.tmp 52) (.tmp 54) 75 rfl w.heap.size 80 iT (.agg zz) 65 65 Tryz.underlying75 hiT hzT0 hzT1 hzT2 hzc (by decide) _ St.length (oC val St) rfl O4.out ⟨w4.heap.size,0,none⟩ 1 1 m.toList rfl HML2.out (HNW.out w4) HALm.out (by decide) (by unfold maxLen;omega) (by omega) HS4.out ?_;intro v6 w6 g1 g2;have S6:=qaa (HAPS.out w4 v6 w6 S4.out g1 g2);obtain⟨a6,k6,hv6,_⟩:=qag g1;subst hv6;clear g1 g2)
       |(at_builtin;refine qac rfl (.tmp 59) (.tmp 61) 22 rfl w.heap.size 3 i3 (.int .i64 0) 1 8 Tryz.underlying22 hi3 hz30 hz31 hz32 rfl (by decide) _ NX.length (qab NX) rfl (own_below (show w6.ownsRow w.heap.size 3 1 _ NX.length (qab NX) from S6.out.o2) (NmP.x5 w6 St.length)) ⟨w6.heap.size,0,none⟩ 1 1 [.int .i64 (St.length:Nat)] rfl rfl (qbi w6 St.length 3) (by simp[Value.oneCell']) (by decide) (by unfold maxLen;omega) (by omega) (Nat.le_trans S6.out.bel.size (NmP.x5 w6 St.length).size) ?_;intro v7 w7 g1 g2;have S7:=qaa ((S6.out.below (NmP.x5 w6 St.length)).appX St.length g1 g2);clear g1 g2))
       have HV2:Hid (∀s∈St++[x],V s):=fun s hs=>by
        rcases List.mem_append.1 hs with hs|hs
        ·exact HV.out s hs
        ·rw[List.mem_singleton.1 hs];exact HVX.out
       go_roundg (M-(j+1)+1)
       case measure=>have:=HG2.out;omega
       case rel=>exact⟨St++[x],NX++[St.length],j+1,by first|rfl|go_num|(congr 1;omega),S7,EN,HV2,by rw[List.length_append,List.length_singleton];omega,by rw[List.length_append];omega,by omega⟩
    ·have hj':¬(j:Int)<(M:Int):=by omega
     have EN:=qaa (ES.out.row hk hj);go_wp2;go_roundg (256-(k+1)+1)
     case measure=>have:=HG.out;omega
     case rel=>exact⟨St,NX,k+1,by first|rfl|go_num|(congr 1;omega),MX,EN,HV,hSt,by omega⟩
  ·have hk':¬(k:Int)<(St.length:Int):=by omega
   have ED:=qaa (ES.out.done hk);obtain⟨a2,k2,hv2,_⟩:=qag MX.out.o1;subst hv2;go_wp2;go_ret3;exact⟨.inl ⟨_,_,St,NX,rfl,ED.out,hSt,HV.out,MX.out.o1,MX.out.o2,MX.out.ap⟩,MX.out.bel⟩
end Go.Proofs.YtdgoilkgplnhfaaGreat
namespace Go.Proofs.YtdgoilkgplnhfaaGreat
open Go.RowKit Go.Lib
def zN (L:List Nat):List Int:=L.map fun(n:Nat)=>(n:Int)
theorem qjy (L:List Int) (h:∀z∈L,0≤z):zN (L.map Int.toNat)=L:=by
 unfold zN;rw[List.map_map]
 conv=>rhs;rw[←List.map_id L]
 refine List.map_congr_left (fun z hz=>?_);have:=h z hz;show((z.toNat:Nat):Int)=z;omega
theorem qjz (L:List Nat):∀x∈L,x≤mxL L:=by
 have key:∀(L:List Nat) (a:Nat),a≤L.foldl max a∧∀x∈L,x≤L.foldl max a:=by
  intro L
  induction L with
  |nil=>intro a;exact⟨Nat.le_refl _,fun x hx=>by cases hx⟩
  |cons y L ih=>
   intro a;rw[List.foldl_cons];obtain⟨h1,h2⟩:=ih (max a y);refine⟨by omega,fun x hx=>?_⟩;rcases List.mem_cons.1 hx with rfl|hx
   ·omega
   ·exact h2 x hx
 exact(key L 0).2
theorem qj0 {bs:By} {NZ OZ:List Int} (h:qcr bs NZ OZ):∃NX OU,NZ=zN NX∧OZ=zN OU∧qbv bs NX OU:=by
 obtain⟨h1,h2,h3,h4,h5,h6⟩:=h;have hn:∀z∈NZ,0≤z∧z<(OZ.length:Int):=fun z hz=>by
  have:=List.any_eq_false.1 h5 z hz;unfold qdg at this;simp at this;omega
 have ho:∀z∈OZ,0≤z∧z≤65535:=fun z hz=>by
  have:=List.any_eq_false.1 h6 z hz;by_cases hl:Lab z
  ·exact hl
  ·exact absurd (by unfold nlB;simp[hl]) this
 have hdiv:NZ.length/OZ.length=mxL (ntL bs)+1:=by rw[h4];exact Nat.mul_div_cancel_left _ (by omega)
 have hml:=qi9 bs;refine⟨NZ.map Int.toNat,OZ.map Int.toNat,(qjy NZ (fun z hz=>(hn z hz).1)).symm,(qjy OZ (fun z hz=>(ho z hz).1)).symm,h1,by rw[List.length_map];omega,by rw[List.length_map];exact h3,?_,fun b hb=>?_,?_,fun x hx=>?_,fun x hx=>?_⟩
 ·rw[List.length_map,List.length_map,hdiv];exact h4
 ·rw[List.length_map,List.length_map,hdiv]
  have hbl:b<bs.length:=by omega
  have e:bs.getD b 0=bs[b]:=by simp[List.getD_eq_getElem?_getD,hbl]
  have:=qjz (ntL bs) (bs[b]).toNat (List.mem_map.2 ⟨_,List.getElem_mem hbl,rfl⟩);rw[e];omega
 ·rw[List.length_map,List.length_map,hdiv];omega
 ·obtain⟨z,hz,rfl⟩:=List.mem_map.1 hx
  have:=hn z hz;rw[List.length_map];omega
 ·obtain⟨z,hz,rfl⟩:=List.mem_map.1 hx
  have:=ho z hz;omega
theorem ZAt.nat {w:World} {ao:Option Addr} {L:List Nat} (h:ZAt w ao (zN L)):NAt w ao L:=by
 rcases h with h|⟨b,off,h1,h2,h3⟩
 ·exact .inl (List.map_eq_nil_iff.1 h)
 ·refine .inr ⟨b,off,h1,h2,fun i hi=>?_⟩
  have:=h3 i (by unfold zN;rw[List.length_map];exact hi);rw[this];simp[zN]
theorem qhb.kept {bs:By} {NX OU:List Nat} {base base' g:Nat} {e:Ending} {w w':World} (h:qhb bs NX OU base e w) (k:Kept (fun b=>b=g) w w') (hg:g<base) (hb:base'≤base):qhb bs NX OU base' e w':=by
 rcases h with⟨bs',xa,xn,xc,oa,on,oc,h1,NX',OU',d⟩|h
 ·refine .inl ⟨bs',xa,xn,xc,oa,on,oc,h1,NX',OU',?_,d.rt,d.lb,d.may,d.n⟩
  have r:=d.rws.kept k (fun j hj b hb e=>by
   have:=(World.ownsRow.lt (show w.ownsRow base 3 1 _ _ (qab _) from d.rws.own j hj) b hb).1;omega)
  exact⟨fun j hj=>(r.own j hj).mono' hb,r.ap⟩
 ·exact .inr h
def LeP (bs:By) (NZ OZ:List Int) (base:Nat) (e:Ending) (w:World):Prop:=
 (¬qcr bs NZ OZ∧e=.returned (.tuple #[auV [] none 0 0 none 0 0,.int .i64 60]))∨∃NX OU,NZ=zN NX∧OZ=zN OU∧qbv bs NX OU∧qcr bs NZ OZ∧qhb bs NX OU base e w
theorem qhb.shape {bs:By} {NX OU:List Nat} {base:Nat} {e:Ending} {w:World} (h:qhb bs NX OU base e w):∃(bs':By) (xa:Option Addr) (xn xc:Nat) (oa:Option Addr) (on oc:Nat) (m:Int),e=.returned (.tuple #[.agg #[.string ⟨bs'.toArray⟩,.slice xa xn xc,.slice oa on oc],.int .i64 m]):=by
 rcases h with⟨bs',xa,xn,xc,oa,on,oc,h1,_⟩|⟨h1,_⟩
 ·exact⟨bs',xa,xn,xc,oa,on,oc,0,h1⟩
 ·exact⟨[],none,0,0,none,0,0,2,h1⟩
theorem qpl {A B:List Nat} (hl:A.length=B.length) (h:∀k,k<A.length→gN A k=gN B k):A=B:=qiw hl h
set_option maxRecDepth 100000 in
set_option maxHeartbeats 2000000 in
theorem qf2 (ao bo:Option Addr) (ac bc:Nat) (A B:List Nat) (w:World) (hl:A.length≤140737488351232) (ha:NAt w ao A) (hb:NAt w bo B):
 Calls Tryz.prog 40 #[.slice ao A.length ac,.slice bo B.length bc] w fun e w'=>qdm (A=B) e∧Below w.heap.size w w':=by
 by_cases h1:A.length=B.length
 ·have h1':(A.length:Int)=(B.length:Int):=by omega
  have b1:((A.length:Int)!=(B.length:Int))=false:=by simp;omega
  have H1:=qaa h1;have HA:=qaa ha;have HB:=qaa hb;clear h1 ha hb;go_enter Tryz.func40,Tryz.ntmps40;go_wp2;go_loopg [13] (A.length+1) (fun g x wr=>∃k:Nat,x=.int .i64 (k:Nat)∧k≤A.length∧Hid (∀j,j<k→gN A j=gN B j)∧Hid (Below w.heap.size w wr)∧A.length-k<g)
  case atStart=>exact⟨0,rfl,by omega,fun j hj=>by omega,Below.refl _ _,by omega⟩
  case round=>
   obtain⟨k,rfl,hk1,HE,X,hg⟩:=hrel;have HG:=qaa hg;clear hg;by_cases hk:k<A.length
   ·have hk':(k:Int)<(A.length:Int):=by omega
    have hkb:k<B.length:=by have:=H1.out;omega
    have hkb':(k:Int)<(B.length:Int):=by omega
    obtain⟨pa,oa,rfl,_,ca⟩:=(HA.out.below X.out).get hk;obtain⟨pb,ob,rfl,_,cb⟩:=(HB.out.below X.out).get hkb;rw[←qah hk] at ca;rw[←qah hkb] at cb;obtain⟨x,hx⟩:∃x,x=gN A k:=⟨_,rfl⟩;obtain⟨y,hy⟩:∃y,y=gN B k:=⟨_,rfl⟩;rw[←hx] at ca;rw[←hy] at cb;have HXX:=qaa hx;have HYY:=qaa hy;clear hx hy;by_cases hxy:x=y
    ·have hxy':(x:Int)=(y:Int):=by omega
     have bxy:((x:Int)!=(y:Int))=false:=by simp;omega
     go_wp2;go_quiet (fail);have X6:Hid (Below w.heap.size w (wr.drewN nq)):=X.out.trans ⟨rfl,rfl,rfl,Nat.le_refl _,fun _ _=>rfl⟩;go_wp2;go_roundg (A.length-(k+1)+1)
     case measure=>have:=HG.out;omega
     case rel=>exact⟨k+1,by first|rfl|go_num|(congr 1;omega),by omega,fun j hj=>by
      by_cases e:j=k
      ·rw[e,←HXX.out,←HYY.out];exact hxy
      ·exact HE.out j (by omega),X6,by omega⟩
    ·have hxy':¬(x:Int)=(y:Int):=by omega
     have bxy:((x:Int)!=(y:Int))=true:=by simp;omega
     go_wp2;go_quiet (fail);have X6:Hid (Below w.heap.size w (wr.drewN nq)):=X.out.trans ⟨rfl,rfl,rfl,Nat.le_refl _,fun _ _=>rfl⟩;go_wp2;go_ret;exact⟨⟨false,rfl,⟨fun h=>(by cases h),fun h=>absurd (by rw[HXX.out,HYY.out,h]) hxy⟩⟩,X6.out⟩
   ·have hk':¬(k:Int)<(A.length:Int):=by omega
    go_wp2;go_ret;exact⟨⟨true,rfl,⟨fun _=>qpl H1.out (fun j hj=>HE.out j (by omega)),fun _=>rfl⟩⟩,X.out⟩
 ·have h1':¬(A.length:Int)=(B.length:Int):=by omega
  have b1:((A.length:Int)!=(B.length:Int))=true:=by simp;omega
  have H1:=qaa h1;clear h1;go_enter Tryz.func40,Tryz.ntmps40;go_wp2;go_ret;exact⟨⟨false,rfl,⟨fun h=>(by cases h),fun h=>absurd (by rw[h]) H1.out⟩⟩,Below.refl _ _⟩
theorem qd3 {bs bs':By} {NX OU NX' OU':List Nat} (hM:qbv bs NX OU) (hM':qbv bs' NX' OU') (hr:(dfA bs NX OU).Right) (hr':(dfA bs' NX' OU').Right) (hl:∀t,Txt t→(dfA bs' NX' OU').lab 0 t=(dfA bs NX OU).lab 0 t):bs=bs'∧NX=NX'∧OU=OU':=by
 obtain⟨h1,h2,h3,h4,h5⟩:=qfg hr' hr hl;have h1:OU'.length=OU.length:=h1;have h2:NX'.length/OU'.length=NX.length/OU.length:=h2;have hlen:NX'.length=NX.length:=by rw[hM'.wl,hM.wl,h2,h1]
 refine⟨List.ext_getElem (by rw[hM.bl,hM'.bl]) (fun i a b=>?_),qiw hlen.symm (fun q hq=>?_),qiw h1.symm (fun s hs=>?_)⟩
 ·have:=h3 i (by rw[←hM.bl];exact a)
  have e1:(bs'.getD i 0).toNat=(bs.getD i 0).toNat:=this;rw[List.getD_eq_getElem?_getD,List.getD_eq_getElem?_getD,List.getElem?_eq_getElem a,List.getElem?_eq_getElem b] at e1;exact(UInt8.toNat_inj.1 e1).symm
 ·have hw:0<NX.length/OU.length:=hr.toOk.W0
  have hm:=Nat.mod_lt q hw;have hd:q/(NX.length/OU.length)<OU.length:=by rw[Nat.div_lt_iff_lt_mul hw,←hM.wl];exact hq
  have:=h4 (q/(NX.length/OU.length)) (by show _<OU'.length;rw[h1];exact hd) (q%(NX.length/OU.length)) (by show _<NX'.length/OU'.length;rw[h2];exact hm);have e1:gN NX' (q/(NX.length/OU.length)*(NX'.length/OU'.length)+q%(NX.length/OU.length))=gN NX (q/(NX.length/OU.length)*(NX.length/OU.length)+q%(NX.length/OU.length)):=this;have e:q/(NX.length/OU.length)*(NX.length/OU.length)+q%(NX.length/OU.length)=q:=by rw[Nat.mul_comm];exact Nat.div_add_mod q _
  rw[h2,e] at e1;exact e1.symm
 ·have:=h5 s (by show s<OU'.length;rw[h1];exact hs)
  have e1:((gN OU' s:Nat):Int)=((gN OU s:Nat):Int):=this;omega
end Go.Proofs.YtdgoilkgplnhfaaGreat

