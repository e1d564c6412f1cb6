/-
  permuted by its contract. Condition: at most 12 levels.
-/
import Derived.Test.YtnddhkhmbjeefaaC32
import Derived.Test.YtnddhkhmbjeefaaC05
namespace Go.Proofs.Ytnddhkhmbjeefaa
open Go.RowKit Go.Lib Go.Maps
section
variable {w:World} {raw:List Int} {n:Nat}
set_option maxRecDepth 100000 in
set_option maxHeartbeats 4000000 in
theorem permuted_any (ao:Option Addr) (cap:Nat) (hn:n≤12) (hz:ZAt w ao raw) (hf:∀c∈raw,Fit c) (hl:raw.length≤140737488351232):
 Calls Try.prog 10 #[.slice ao raw.length cap,.int .i64 (n:Int)] w fun e w'=>∃so co O,e=.returned (.slice so n co)∧w'.ownsRow w.heap.size 3 1 (.slice so n co) n (zC O)∧O.Perm (lows n)∧(raw=[]→O=lows n)∧Below w.heap.size w w':=by
 obtain⟨i3,hi3,hz30,hz31,hz32⟩:=info_parts Try.info3
 have HZ:=hide hz
 have HF:=hide hf
 clear hz hf
 have ST:Hid (PmI w w (.slice none 0 0) [] (.slice none 0 0) []):=⟨Below.refl _ _,World.ownsRow_nil _ _ _ _,World.ownsRow_nil _ _ _ _,fun _ e=>(by cases e)⟩
 go_enter Try.func10,Try.ntmps10
 go_wp2
 go_loopw [5,6] (fun v5 v6 wr=>∃k:Nat,k≤n∧v6=.int .i64 (k:Int)∧∃sl cl,v5=.slice sl k cl∧Hid (PmI w wr (.slice none 0 0) [] (.slice sl k cl) (lows k))) (fun _ v _=>n-(RowKit.intOf v).toNat)
 case atStart=>exact⟨0,Nat.zero_le _,rfl,none,0,rfl,ST⟩
 case round=>
  obtain⟨k,hk,rfl,sl,cl,rfl,PI⟩:=hrel
  clear ST
  by_cases hlk:k<n
  ·have hlk':(k:Int)<(n:Int):=by omega
   have Y7:Hid (Below wr.heap.size wr (wr.alloc (.cells #[.int .i64 (k:Int)] 3))):=al (Below.refl _ _) _
   have SW8:Hid (w.heap.size≤(wr.alloc (.cells #[.int .i64 (k:Int)] 3)).heap.size):=Nat.le_trans PI.out.bel.size Y7.out.size
   have R7:Hid ((wr.alloc (.cells #[.int .i64 (k:Int)] 3)).ownsRow w.heap.size 3 1 (.slice sl k cl) k (zC (lows k))):=by
    have:=own_below PI.out.r2 Y7.out
    rw[lows_len] at this
    exact this
   go_upto_region 4 with(at_builtin;refine wpList_append_lies _ rfl (.tmp 17) (.tmp 19) 22 rfl w.heap.size 3 i3 (.int .i64 0) 1 8 Try.underlying22 hi3 hz30 hz31 hz32 rfl (by decide) _ k (zC (lows k)) rfl R7.out ⟨wr.heap.size,0,none⟩ 1 1 [.int .i64 (k:Int)] rfl rfl (one_new wr _ _) (by simp[Value.oneCell']) (by decide) (by unfold maxLen;omega) (by omega) SW8.out _ rfl ?_;intro g8 cap8 w8 h1 h2 h3 h4;have O8:=hide h1;have G8:=hide h2;have H8:=hide h3;clear h1 h2 h3 h4)
   have FIN:=PI.out.push (x:=(k:Int)) (cap:=cap8) (g:=g8) Y7.out (by rw[lows_len];exact O8.out) G8.out H8.out
   rw[show lows k++[(k:Int)]=lows (k+1) by simp[lows,List.range_succ],lows_len] at FIN
   replace FIN:=hide FIN
   clear O8 G8 H8 R7 SW8 Y7
   go_wp2
   go_roundw
   case rel=>exact⟨k+1,by omega,by go_num,_,_,rfl,FIN⟩
   case measure=>simp[RowKit.intOf];omega
  ·have hlk':¬(k:Int)<(n:Int):=by omega
   obtain rfl:n=k:=by omega
   have P2:Hid (PmI w wr (.slice sl n cl) (lows n) (.slice none 0 0) []):=⟨PI.out.bel,PI.out.r2,World.ownsRow_nil _ _ _ _,fun _ _ e=>(by cases e)⟩
   have PP0:Hid (PmP raw n 0 [] (lows n)):=PmP.start
   clear PI
   generalize wr=wo at *
   go_wp2
   go_loopw [5,7,8] (fun v5 v7 v8 wr=>∃k:Nat,k≤n∧v8=.int .i64 (k:Int)∧∃sl cl so co L O,v5=.slice sl (n-k) cl∧v7=.slice so k co∧Hid (PmI w wr (.slice sl (n-k) cl) L (.slice so k co) O)∧Hid (PmP raw n k O L)) (fun _ _ v _=>n-(RowKit.intOf v).toNat)
   case atStart=>exact⟨0,Nat.zero_le _,rfl,sl,cl,none,0,lows n,[],rfl,rfl,P2,PP0⟩
   case round=>
    obtain⟨k,hk2,rfl,sl,cl,so,co,L,O,rfl,rfl,PI,PP⟩:=hrel
    clear P2 PP0
    by_cases hlk:k<n
    ·have hlk':(k:Int)<(n:Int):=by omega
     obtain⟨lg,rfl⟩:∃lg,sl=some ⟨lg,0,none⟩:=by
      rcases PI.out.r1.2 with⟨_,h⟩|⟨g,_,_,e,_⟩
      ·rw[PP.out.ll] at h;omega
      ·injection e with e
       exact⟨g,e⟩
     have R1:Hid (wr.ownsRow w.heap.size 3 1 (.slice (some ⟨lg,0,none⟩) (n-k) cl) (n-k) (zC L)):=by
      have:=PI.out.r1
      rw[PP.out.ll] at this
      exact this
     by_cases hr:k<raw.length
     ·have hr':(k:Int)<(raw.length:Int):=by omega
      obtain⟨zb,zo,hao,hzb,q1⟩:=(HZ.out.below PI.out.bel).get hr
      subst hao
      obtain⟨c,hc⟩:∃c,raw.getD k 0=c:=⟨_,rfl⟩
      rw[hc] at q1
      have FC:Fit c:=by
       rw[←hc,List.getD_eq_getElem?_getD,List.getElem?_eq_getElem hr]
       exact HF.out _ (List.getElem_mem _)
      clear hc
      have PK:=hide (pick_any c (n-k) FC (by omega) (by omega) wr)
      obtain⟨j,hjd⟩:∃j,pkZ c (n-k)=j:=⟨_,rfl⟩
      have hj:j<n-k:=by rw[←hjd];exact pkZ_lt _ (by omega)
      have J0:Hid (raw=[]→j=0):=fun hq=>by
       rw[hq] at hr
       simp at hr
      rw[hjd] at PK
      clear hjd FC
      obtain⟨x,hx⟩:∃x,L[j]'(by rw[PP.out.ll];exact hj)=x:=⟨_,rfl⟩
      have l1:wr.cell? ⟨lg,j,none⟩=some (.int .i64 x):=by
       have h1:=World.ownsRow.cellAt R1.out j (by omega)
       rw[h1,←hx]
       simp[zC,List.getElem?_eq_getElem (show j<L.length by rw[PP.out.ll];exact hj)]
      have HX:=hide hx
      clear hx
      have hji:(j:Int)<((n-k:Nat):Int):=by omega
      have Y7:Hid (Below wr.heap.size wr (wr.alloc (.cells #[.int .i64 x] 3))):=al (Below.refl _ _) _
      have SW8:Hid (w.heap.size≤(wr.alloc (.cells #[.int .i64 x] 3)).heap.size):=Nat.le_trans PI.out.bel.size Y7.out.size
      have R7:Hid ((wr.alloc (.cells #[.int .i64 x] 3)).ownsRow w.heap.size 3 1 (.slice so k co) k (zC O)):=by
       have:=own_below PI.out.r2 Y7.out
       rw[PP.out.lo] at this
       exact this
      go_upto_region 15 with(first
       |(go_at_call 14;refine PK.out.mono ?_;rintro e w6 ⟨rfl,h⟩;rw[h];clear h)
       |(at_builtin;refine wpList_append_lies _ rfl (.tmp 38) (.tmp 43) 22 rfl w.heap.size 3 i3 (.int .i64 0) 1 8 Try.underlying22 hi3 hz30 hz31 hz32 rfl (by decide) _ k (zC O) rfl R7.out ⟨wr.heap.size,0,none⟩ 1 1 [.int .i64 x] rfl rfl (one_new wr _ _) (by simp[Value.oneCell']) (by decide) (by unfold maxLen;omega) (by omega) SW8.out _ rfl ?_;intro g8 cap8 w8 h1 h2 h3 h4;have O8:=hide h1;have G8:=hide h2;have H8:=hide h3;clear h1 h2 h3 h4))
      have P8:Hid (PmI w w8 (.slice (some ⟨lg,0,none⟩) (n-k) cl) L (.slice (some ⟨g8,0,none⟩) (k+1) cap8) (O++[x])):=by
       have:=PI.out.push (x:=x) (cap:=cap8) (g:=g8) Y7.out (by rw[PP.out.lo];exact O8.out) G8.out H8.out
       rw[show(O++[x]).length=k+1 by rw[List.length_append,PP.out.lo];rfl] at this
       exact this
      have PQ:Hid (PmP raw n (k+1) (O++[x]) (L.eraseIdx j)):=by
       have:=PP.out.step (by rw[PP.out.ll];exact hj) J0.out
       rw[HX.out] at this
       exact this
      clear O8 G8 H8 R7 SW8 Y7 PK l1 HX J0
      have R8:Hid (w8.ownsRow w.heap.size 3 1 (.slice (some ⟨lg,0,none⟩) (n-k) cl) (n-k) (zC L)):=by
       have:=P8.out.r1
       rw[PP.out.ll] at this
       exact this
      have hcl:n-k≤cl∧cl≤maxLen:=by
       rcases R8.out.2 with⟨e,_⟩|⟨_,_,_,e,_,_,q1,q2,_⟩
       ·cases e
       ·injection e with _ _ e
        subst e
        exact⟨q1,q2⟩
      have hc1:(j:Int)≤(cl:Int):=by omega
      have hlz:(zC L).length=n-k:=by simp[zC,PP.out.ll]
      have HLZ:=hide hlz
      have hc2:=hcl.1
      have hc3:=hcl.2
      have ej:IntKind.i64.wrap ((j:Int)+1)=(j:Int)+1:=by simp[IntKind.wrap,IntKind.bits,IntKind.signed];omega
      have ej2:((j:Int)+1).toNat=j+1:=by omega
      have hc4:(0:Int)≤(j:Int)+1:=by omega
      have hc5:(j:Int)+1≤((n-k:Nat):Int):=by omega
      have hc6:((n-k:Nat):Int)≤(cl:Int):=by omega
      have NW1:Hid (∀i u,((zC L).take j)[i]? =some u→w8.cell? ((⟨lg,0,none⟩:Addr).add i)=some u):=fun i u hu=>by
       rw[List.getElem?_take] at hu
       split at hu
       ·rename_i hij
        rw[addr_add,Nat.zero_add,World.ownsRow.cellAt R8.out i (by omega)]
        exact hu
       ·cases hu
      have LT1:Hid (((zC L).take j).length=j*1):=by unfold Hid;rw[List.length_take,hlz];omega
      have OC:Hid (∀u∈zC L,u.oneCell'=true):=fun u hu=>by
       obtain⟨z,_,rfl⟩:=List.mem_map.1 hu
       rfl
      have SW:Hid (w.heap.size≤w8.heap.size):=P8.out.bel.size
      clear hlz hcl
      go_upto_region 17 with(at_builtin;refine wpList_append_own_at _ rfl (.tmp 45) (.tmp 48) 22 rfl w.heap.size 3 i3 (.int .i64 0) 1 8 Try.underlying22 hi3 hz30 hz31 hz32 rfl (by decide) (.slice none 0 0) 0 [] rfl (World.ownsRow_nil _ _ _ _) ⟨lg,0,none⟩ j _ ((zC L).take j) rfl LT1.out NW1.out (fun u hu=>OC.out u (List.mem_of_mem_take hu)) (by unfold maxLen;omega) (by omega) SW.out ?_;intro v9 w9 h1 h2 h3 h4;obtain⟨ma,mc,rfl,_⟩:=own_shape h1;have O9:=hide h1;have G9:=hide h2;have B9:=hide h4;clear h1 h2 h3 h4)
      have OA:Hid (w9.ownsRow w.heap.size 3 1 (.slice ma j mc) j ((zC L).take j)):=by
       have:=O9.out
       simpa [Hid] using this
      have y9:Below w8.heap.size w8 w9:=(kept_grown G9.out).below (Nat.le_refl _) (fun _ e=>by cases e)
      have R9:=hide (own_below R8.out y9)
      have SW9:Hid (w.heap.size≤w9.heap.size):=Nat.le_trans SW.out y9.size
      by_cases hcap:cl=j+1
      ·subst hcap
       have NW2:Hid (∀i u,((zC L).drop (j+1))[i]? =some u→w9.cell? ((⟨lg,0,none⟩:Addr).add i)=some u):=fun i u hu=>by
        rw[List.getElem?_drop] at hu
        have hi:j+1+i<n-k:=by
         rw[←HLZ.out]
         rcases Nat.lt_or_ge (j+1+i) (zC L).length with h|h
         ·exact h
         ·rw[List.getElem?_eq_none h] at hu;cases hu
        omega
       have LT2:Hid (((zC L).drop (j+1)).length=(n-k-(j+1))*1):=by unfold Hid;rw[List.length_drop,HLZ.out];omega
       have B9':Hid ((Value.slice ma j mc).ownBlock=none∨(Value.slice ma j mc).ownBlock=some w8.heap.size):=by
        have:=B9.out
        rw[Nat.zero_add] at this
        exact this
       clear O9 y9 NW1 LT1 B9
       go_upto_region 9 with(at_builtin;refine wpList_append_own_at _ rfl (.tmp 50) (.tmp 54) 22 rfl w.heap.size 3 i3 (.int .i64 0) 1 8 Try.underlying22 hi3 hz30 hz31 hz32 rfl (by decide) (.slice ma j mc) j ((zC L).take j) rfl OA.out ⟨lg,0,none⟩ 0 _ [] rfl rfl (fun i u hu=>(by simp at hu)) (fun u hu=>(by simp at hu)) (by unfold maxLen;omega) (by omega) SW9.out ?_;intro v10 w10 h1 h2 h3 h4;rw[show j+0=n-(k+1) by omega] at h1;obtain⟨sl2,cl2,rfl,_⟩:=own_shape h1;have O10:=hide h1;have G10:=hide h2;have B10:=hide h4;clear h1 h2 h3 h4)
       have FIN:=hide (P8.out.anew (j:=j) (by rw[PP.out.ll];exact hj) G9.out B9'.out (by rw[PP.out.ll,show j+(n-k-(j+1))=n-(k+1) by omega,show(zC L).drop (j+1)=[] from List.drop_of_length_le (by rw[HLZ.out];omega)];exact O10.out) G10.out B10.out)
       clear O10 G10 B10 OA G9 B9' R9 NW2 LT2 SW9 R8 OC HLZ P8 hc1 hc2 hc3 hc4 hc5 hc6 ej ej2 hji
       go_wp2
       go_roundw
       case rel=>exact⟨k+1,by omega,by go_num,sl2,cl2,some ⟨g8,0,none⟩,cap8,L.eraseIdx j,O++[x],rfl,rfl,FIN,PQ⟩
       case measure=>simp[RowKit.intOf];omega
      ·have hne1:¬cl-(j+1)=0:=by omega
       have hne2:¬j+1=cl:=fun e=>hcap e.symm
       have NW2:Hid (∀i u,((zC L).drop (j+1))[i]? =some u→w9.cell? ((⟨lg,j+1,none⟩:Addr).add i)=some u):=fun i u hu=>by
        rw[List.getElem?_drop] at hu
        have hi:j+1+i<n-k:=by
         rw[←HLZ.out]
         rcases Nat.lt_or_ge (j+1+i) (zC L).length with h|h
         ·exact h
         ·rw[List.getElem?_eq_none h] at hu;cases hu
        rw[addr_add,World.ownsRow.cellAt R9.out (j+1+i) (by omega)]
        exact hu
       have LT2:Hid (((zC L).drop (j+1)).length=(n-k-(j+1))*1):=by unfold Hid;rw[List.length_drop,HLZ.out];omega
       have B9':Hid ((Value.slice ma j mc).ownBlock=none∨(Value.slice ma j mc).ownBlock=some w8.heap.size):=by
        have:=B9.out
        rw[Nat.zero_add] at this
        exact this
       clear O9 y9 NW1 LT1 B9
       go_upto_region 9 with(at_builtin;refine wpList_append_own_at _ rfl (.tmp 50) (.tmp 54) 22 rfl w.heap.size 3 i3 (.int .i64 0) 1 8 Try.underlying22 hi3 hz30 hz31 hz32 rfl (by decide) (.slice ma j mc) j ((zC L).take j) rfl OA.out ⟨lg,j+1,none⟩ (n-k-(j+1)) _ ((zC L).drop (j+1)) rfl LT2.out NW2.out (fun u hu=>OC.out u (List.mem_of_mem_drop hu)) (by unfold maxLen;omega) (by omega) SW9.out ?_;intro v10 w10 h1 h2 h3 h4;rw[show j+(n-k-(j+1))=n-(k+1) by omega] at h1;obtain⟨sl2,cl2,rfl,_⟩:=own_shape h1;have O10:=hide h1;have G10:=hide h2;have B10:=hide h4;clear h1 h2 h3 h4)
       have FIN:=hide (P8.out.anew (j:=j) (by rw[PP.out.ll];exact hj) G9.out B9'.out (by rw[PP.out.ll,show j+(n-k-(j+1))=n-(k+1) by omega];exact O10.out) G10.out B10.out)
       clear O10 G10 B10 OA G9 B9' R9 NW2 LT2 SW9 R8 OC HLZ P8 hc1 hc2 hc3 hc4 hc5 hc6 ej ej2 hji
       go_wp2
       go_roundw
       case rel=>exact⟨k+1,by omega,by go_num,sl2,cl2,some ⟨g8,0,none⟩,cap8,L.eraseIdx j,O++[x],rfl,rfl,FIN,PQ⟩
       case measure=>simp[RowKit.intOf];omega
     ·have hr':¬(k:Int)<(raw.length:Int):=by omega
      have FC:Fit 0:=⟨by decide,by decide⟩
      have PK:=hide (pick_any 0 (n-k) FC (by omega) (by omega) wr)
      obtain⟨j,hjd⟩:∃j,pkZ 0 (n-k)=j:=⟨_,rfl⟩
      have hj:j<n-k:=by rw[←hjd];exact pkZ_lt _ (by omega)
      have J0:Hid (raw=[]→j=0):=fun hr=>by
       rw[←hjd]
       simp[pkZ]
      rw[hjd] at PK
      clear hjd FC
      obtain⟨x,hx⟩:∃x,L[j]'(by rw[PP.out.ll];exact hj)=x:=⟨_,rfl⟩
      have l1:wr.cell? ⟨lg,j,none⟩=some (.int .i64 x):=by
       have h1:=World.ownsRow.cellAt R1.out j (by omega)
       rw[h1,←hx]
       simp[zC,List.getElem?_eq_getElem (show j<L.length by rw[PP.out.ll];exact hj)]
      have HX:=hide hx
      clear hx
      have hji:(j:Int)<((n-k:Nat):Int):=by omega
      have Y7:Hid (Below wr.heap.size wr (wr.alloc (.cells #[.int .i64 x] 3))):=al (Below.refl _ _) _
      have SW8:Hid (w.heap.size≤(wr.alloc (.cells #[.int .i64 x] 3)).heap.size):=Nat.le_trans PI.out.bel.size Y7.out.size
      have R7:Hid ((wr.alloc (.cells #[.int .i64 x] 3)).ownsRow w.heap.size 3 1 (.slice so k co) k (zC O)):=by
       have:=own_below PI.out.r2 Y7.out
       rw[PP.out.lo] at this
       exact this
      go_upto_region 15 with(first
       |(go_at_call 14;refine PK.out.mono ?_;rintro e w6 ⟨rfl,h⟩;rw[h];clear h)
       |(at_builtin;refine wpList_append_lies _ rfl (.tmp 38) (.tmp 43) 22 rfl w.heap.size 3 i3 (.int .i64 0) 1 8 Try.underlying22 hi3 hz30 hz31 hz32 rfl (by decide) _ k (zC O) rfl R7.out ⟨wr.heap.size,0,none⟩ 1 1 [.int .i64 x] rfl rfl (one_new wr _ _) (by simp[Value.oneCell']) (by decide) (by unfold maxLen;omega) (by omega) SW8.out _ rfl ?_;intro g8 cap8 w8 h1 h2 h3 h4;have O8:=hide h1;have G8:=hide h2;have H8:=hide h3;clear h1 h2 h3 h4))
      have P8:Hid (PmI w w8 (.slice (some ⟨lg,0,none⟩) (n-k) cl) L (.slice (some ⟨g8,0,none⟩) (k+1) cap8) (O++[x])):=by
       have:=PI.out.push (x:=x) (cap:=cap8) (g:=g8) Y7.out (by rw[PP.out.lo];exact O8.out) G8.out H8.out
       rw[show(O++[x]).length=k+1 by rw[List.length_append,PP.out.lo];rfl] at this
       exact this
      have PQ:Hid (PmP raw n (k+1) (O++[x]) (L.eraseIdx j)):=by
       have:=PP.out.step (by rw[PP.out.ll];exact hj) J0.out
       rw[HX.out] at this
       exact this
      clear O8 G8 H8 R7 SW8 Y7 PK l1 HX J0
      have R8:Hid (w8.ownsRow w.heap.size 3 1 (.slice (some ⟨lg,0,none⟩) (n-k) cl) (n-k) (zC L)):=by
       have:=P8.out.r1
       rw[PP.out.ll] at this
       exact this
      have hcl:n-k≤cl∧cl≤maxLen:=by
       rcases R8.out.2 with⟨e,_⟩|⟨_,_,_,e,_,_,q1,q2,_⟩
       ·cases e
       ·injection e with _ _ e
        subst e
        exact⟨q1,q2⟩
      have hc1:(j:Int)≤(cl:Int):=by omega
      have hlz:(zC L).length=n-k:=by simp[zC,PP.out.ll]
      have HLZ:=hide hlz
      have hc2:=hcl.1
      have hc3:=hcl.2
      have ej:IntKind.i64.wrap ((j:Int)+1)=(j:Int)+1:=by simp[IntKind.wrap,IntKind.bits,IntKind.signed];omega
      have ej2:((j:Int)+1).toNat=j+1:=by omega
      have hc4:(0:Int)≤(j:Int)+1:=by omega
      have hc5:(j:Int)+1≤((n-k:Nat):Int):=by omega
      have hc6:((n-k:Nat):Int)≤(cl:Int):=by omega
      have NW1:Hid (∀i u,((zC L).take j)[i]? =some u→w8.cell? ((⟨lg,0,none⟩:Addr).add i)=some u):=fun i u hu=>by
       rw[List.getElem?_take] at hu
       split at hu
       ·rename_i hij
        rw[addr_add,Nat.zero_add,World.ownsRow.cellAt R8.out i (by omega)]
        exact hu
       ·cases hu
      have LT1:Hid (((zC L).take j).length=j*1):=by unfold Hid;rw[List.length_take,hlz];omega
      have OC:Hid (∀u∈zC L,u.oneCell'=true):=fun u hu=>by
       obtain⟨z,_,rfl⟩:=List.mem_map.1 hu
       rfl
      have SW:Hid (w.heap.size≤w8.heap.size):=P8.out.bel.size
      clear hlz hcl
      go_upto_region 17 with(at_builtin;refine wpList_append_own_at _ rfl (.tmp 45) (.tmp 48) 22 rfl w.heap.size 3 i3 (.int .i64 0) 1 8 Try.underlying22 hi3 hz30 hz31 hz32 rfl (by decide) (.slice none 0 0) 0 [] rfl (World.ownsRow_nil _ _ _ _) ⟨lg,0,none⟩ j _ ((zC L).take j) rfl LT1.out NW1.out (fun u hu=>OC.out u (List.mem_of_mem_take hu)) (by unfold maxLen;omega) (by omega) SW.out ?_;intro v9 w9 h1 h2 h3 h4;obtain⟨ma,mc,rfl,_⟩:=own_shape h1;have O9:=hide h1;have G9:=hide h2;have B9:=hide h4;clear h1 h2 h3 h4)
      have OA:Hid (w9.ownsRow w.heap.size 3 1 (.slice ma j mc) j ((zC L).take j)):=by
       have:=O9.out
       simpa [Hid] using this
      have y9:Below w8.heap.size w8 w9:=(kept_grown G9.out).below (Nat.le_refl _) (fun _ e=>by cases e)
      have R9:=hide (own_below R8.out y9)
      have SW9:Hid (w.heap.size≤w9.heap.size):=Nat.le_trans SW.out y9.size
      by_cases hcap:cl=j+1
      ·subst hcap
       have NW2:Hid (∀i u,((zC L).drop (j+1))[i]? =some u→w9.cell? ((⟨lg,0,none⟩:Addr).add i)=some u):=fun i u hu=>by
        rw[List.getElem?_drop] at hu
        have hi:j+1+i<n-k:=by
         rw[←HLZ.out]
         rcases Nat.lt_or_ge (j+1+i) (zC L).length with h|h
         ·exact h
         ·rw[List.getElem?_eq_none h] at hu;cases hu
        omega
       have LT2:Hid (((zC L).drop (j+1)).length=(n-k-(j+1))*1):=by unfold Hid;rw[List.length_drop,HLZ.out];omega
       have B9':Hid ((Value.slice ma j mc).ownBlock=none∨(Value.slice ma j mc).ownBlock=some w8.heap.size):=by
        have:=B9.out
        rw[Nat.zero_add] at this
        exact this
       clear O9 y9 NW1 LT1 B9
       go_upto_region 9 with(at_builtin;refine wpList_append_own_at _ rfl (.tmp 50) (.tmp 54) 22 rfl w.heap.size 3 i3 (.int .i64 0) 1 8 Try.underlying22 hi3 hz30 hz31 hz32 rfl (by decide) (.slice ma j mc) j ((zC L).take j) rfl OA.out ⟨lg,0,none⟩ 0 _ [] rfl rfl (fun i u hu=>(by simp at hu)) (fun u hu=>(by simp at hu)) (by unfold maxLen;omega) (by omega) SW9.out ?_;intro v10 w10 h1 h2 h3 h4;rw[show j+0=n-(k+1) by omega] at h1;obtain⟨sl2,cl2,rfl,_⟩:=own_shape h1;have O10:=hide h1;have G10:=hide h2;have B10:=hide h4;clear h1 h2 h3 h4)
       have FIN:=hide (P8.out.anew (j:=j) (by rw[PP.out.ll];exact hj) G9.out B9'.out (by rw[PP.out.ll,show j+(n-k-(j+1))=n-(k+1) by omega,show(zC L).drop (j+1)=[] from List.drop_of_length_le (by rw[HLZ.out];omega)];exact O10.out) G10.out B10.out)
       clear O10 G10 B10 OA G9 B9' R9 NW2 LT2 SW9 R8 OC HLZ P8 hc1 hc2 hc3 hc4 hc5 hc6 ej ej2 hji
       go_wp2
       go_roundw
       case rel=>exact⟨k+1,by omega,by go_num,sl2,cl2,some ⟨g8,0,none⟩,cap8,L.eraseIdx j,O++[x],rfl,rfl,FIN,PQ⟩
       case measure=>simp[RowKit.intOf];omega
      ·have hne1:¬cl-(j+1)=0:=by omega
       have hne2:¬j+1=cl:=fun e=>hcap e.symm
       have NW2:Hid (∀i u,((zC L).drop (j+1))[i]? =some u→w9.cell? ((⟨lg,j+1,none⟩:Addr).add i)=some u):=fun i u hu=>by
        rw[List.getElem?_drop] at hu
        have hi:j+1+i<n-k:=by
         rw[←HLZ.out]
         rcases Nat.lt_or_ge (j+1+i) (zC L).length with h|h
         ·exact h
         ·rw[List.getElem?_eq_none h] at hu;cases hu
        rw[addr_add,World.ownsRow.cellAt R9.out (j+1+i) (by omega)]
        exact hu
       have LT2:Hid (((zC L).drop (j+1)).length=(n-k-(j+1))*1):=by unfold Hid;rw[List.length_drop,HLZ.out];omega
       have B9':Hid ((Value.slice ma j mc).ownBlock=none∨(Value.slice ma j mc).ownBlock=some w8.heap.size):=by
        have:=B9.out
        rw[Nat.zero_add] at this
        exact this
       clear O9 y9 NW1 LT1 B9
       go_upto_region 9 with(at_builtin;refine wpList_append_own_at _ rfl (.tmp 50) (.tmp 54) 22 rfl w.heap.size 3 i3 (.int .i64 0) 1 8 Try.underlying22 hi3 hz30 hz31 hz32 rfl (by decide) (.slice ma j mc) j ((zC L).take j) rfl OA.out ⟨lg,j+1,none⟩ (n-k-(j+1)) _ ((zC L).drop (j+1)) rfl LT2.out NW2.out (fun u hu=>OC.out u (List.mem_of_mem_drop hu)) (by unfold maxLen;omega) (by omega) SW9.out ?_;intro v10 w10 h1 h2 h3 h4;rw[show j+(n-k-(j+1))=n-(k+1) by omega] at h1;obtain⟨sl2,cl2,rfl,_⟩:=own_shape h1;have O10:=hide h1;have G10:=hide h2;have B10:=hide h4;clear h1 h2 h3 h4)
       have FIN:=hide (P8.out.anew (j:=j) (by rw[PP.out.ll];exact hj) G9.out B9'.out (by rw[PP.out.ll,show j+(n-k-(j+1))=n-(k+1) by omega];exact O10.out) G10.out B10.out)
       clear O10 G10 B10 OA G9 B9' R9 NW2 LT2 SW9 R8 OC HLZ P8 hc1 hc2 hc3 hc4 hc5 hc6 ej ej2 hji
       go_wp2
       go_roundw
       case rel=>exact⟨k+1,by omega,by go_num,sl2,cl2,some ⟨g8,0,none⟩,cap8,L.eraseIdx j,O++[x],rfl,rfl,FIN,PQ⟩
       case measure=>simp[RowKit.intOf];omega
    ·have hlk':¬(k:Int)<(n:Int):=by omega
     obtain rfl:n=k:=by omega
     go_wp2
     go_ret
     have h2:=PI.out.r2
     rw[PP.out.lo] at h2
     exact⟨so,co,rfl,O,h2,PP.out.done.1,PP.out.done.2,PI.out.bel⟩
end
def FRow (w:World) (e:TypeId) (size:Nat) (v:Value) (n:Nat) (xs:List Value):Prop:=
 w.ownsRow 0 e size v n xs∨∃g cs,v=.slice (some ⟨g,0,none⟩) n n∧w.heap[g]? =some (.cells cs e (0,0))∧cs.toList.take (n*size)=xs∧xs.length=n*size
section
variable {w w':World} {e:TypeId} {size n:Nat} {v:Value} {xs:List Value}
theorem FRow.len (h:FRow w e size v n xs):xs.length=n*size:=by
 rcases h with h|⟨g,cs,_,_,_,h⟩
 ·exact h.1
 ·exact h
theorem FRow.shape (h:FRow w e size v n xs):∃ao cap,v=.slice ao n cap∧(0<n→∃g,ao=some ⟨g,0,none⟩)∧n≤cap:=by
 rcases h with h|⟨g,cs,rfl,_⟩
 ·obtain⟨ao,cap,rfl,hp⟩:=own_shape h
  exact⟨ao,cap,rfl,hp,own_cap' h⟩
 ·exact⟨_,n,rfl,fun _=>⟨g,rfl⟩,Nat.le_refl _⟩
theorem FRow.ty (h:FRow w e size v n xs) {k:Nat} (hk:v.ownBlock=some k):∃cs,w.heap[k]? =some (.cells cs e (0,0)):=by
 rcases h with h|⟨g,cs,rfl,h1,_⟩
 ·exact own_ty h k hk
 ·obtain rfl:g=k:=Option.some.inj hk
  exact⟨cs,h1⟩
theorem FRow.lt (h:FRow w e size v n xs) {k:Nat} (hk:v.ownBlock=some k):k<w.heap.size:=by
 obtain⟨cs,h1⟩:=h.ty hk
 exact lt_of_block h1
theorem FRow.kept {F:Nat→Prop} (h:FRow w e size v n xs) (hk:Kept F w w') (hF:∀k,v.ownBlock=some k→¬F k):FRow w' e size v n xs:=by
 rcases h with h|⟨g,cs,rfl,h1,h2⟩
 ·exact .inl (own_kept h hk hF)
 ·exact .inr ⟨g,cs,rfl,(hk.block g (lt_of_block h1) (hF g rfl)).trans h1,h2⟩
theorem FRow.cell (h:FRow w e size v n xs) {g cap n':Nat} (hv:v=.slice (some ⟨g,0,none⟩) n' cap) {j:Nat} (hj:j<n*size):w.cell? ⟨g,j,none⟩=xs[j]? :=by
 rcases h with h|⟨g',cs,e1,h1,h2,h3⟩
 ·obtain⟨ao,cap',e1,_⟩:=own_shape h
  rw[hv] at e1
  injection e1 with e1 e2 e3
  subst e1 e2 e3
  subst hv
  exact World.ownsRow.cellAt h j hj
 ·rw[hv] at e1
  injection e1 with e1 e2 e3
  injection e1 with e1;injection e1 with e1
  subst e1
  rw[cell_of_row w g j _ _ _ h1,←h2,List.getElem?_take_of_lt hj,Array.getElem?_toList]
theorem FRow.cut {ao:Option Addr} {cap k:Nat} (h:FRow w e size (.slice ao n cap) n xs) (hk:k≤n):FRow w e size (.slice ao k k) k (xs.take (k*size)):=by
 have hl:=h.len
 have hkm:k*size≤n*size:=Nat.mul_le_mul_right _ hk
 have hx:(xs.take (k*size)).length=k*size:=by rw[List.length_take];omega
 rcases h with h|⟨g',cs,e1,h1,h2,h3⟩
 ·rcases h.2 with⟨e1,e2⟩|⟨g',cap',cur,e1,_,hg,_,_,_,h4⟩
  ·injection e1 with e1 _ _
   subst e1
   obtain rfl:k=0:=by omega
   exact .inl ⟨by simp,.inl ⟨rfl,rfl⟩⟩
  ·injection e1 with e1 _ _
   subst e1
   exact .inr ⟨g',cur,rfl,hg,by rw[←h4,List.take_take,Nat.min_eq_left hkm],hx⟩
 ·injection e1 with e1 _ _
  subst e1
  exact .inr ⟨g',cs,rfl,h1,by rw[←h2,List.take_take,Nat.min_eq_left hkm],hx⟩
theorem step_append_frow {P:Program} {ops:Array Oper} {o:Oper} {a:Act} {K:Act→World→Prop} {Q:Exit→Act→World→Prop} {E:Prop} (hgd:o.guard=none) (s x:Operand) (t:TypeId)
 (ho:o.op=.call { callee:=.builtin .append,args:=#[s,x],argTypes:=#[t,t] })
 (e:TypeId) (i:TypeInfo) (z:Value) (size bytes:Nat) (ht:P.underlying t=some (.slice e)) (hi:P.info? e=some i) (hz:i.zero=some z)
 (hsize:i.size=size) (hby:i.bytes=bytes) (hzs:z.cells.size=size) (hsz:0<size)
 (v:Value) (n:Nat) (xs:List Value) (hs:a.eval s=v) (hown:FRow w e size v n xs)
 (ad:Addr) (m c:Nat) (news:List Value) (hx:a.eval x=.slice (some ad) m c) (hl:news.length=m*size) (hnews:∀j u,news[j]? =some u→w.cell? (ad.add j)=some u) (h1:∀u∈news,u.oneCell'=true)
 (hm:0<m) (h63:n+m≤maxLen) (hbytes:(n+m)*bytes≤140737488355328)
 (h:∀g cap w',w'.ownsRow 0 e size (.slice (some ⟨g,0,none⟩) (n+m) cap) (n+m) (xs++news)→Kept (fun k=>v.ownBlock=some k) w w'→(v.ownBlock=some g∨w.heap.size≤g)→K (a.put o.dst (.slice (some ⟨g,0,none⟩) (n+m) cap)) w'):
 if Region.wanted o (yielded ops a.tmps)=true then Oper.wp P o a w K Q else E:=by
 rcases hown with hown|⟨g,cs,rfl,q1,q2,q3⟩
 ·refine step_append_lies w hgd s x t ho 0 e i z size bytes ht hi hz hsize hby hzs hsz v n xs hs hown ad m c news hx hl hnews h1 hm h63 hbytes (Nat.zero_le _) _ rfl ?_
  intro g cap w' r1 r2 r3 _
  exact h g cap w' r1 (kept_of_grown r2) (r3.imp id (fun e=>by omega))
 ·have hw:Region.wanted o (yielded ops a.tmps)=true:=by simp[Region.wanted,hgd]
  rw[if_pos hw]
  obtain⟨v',w',hrun,r1,r2⟩:=run_append_arg_grows (P:=P) w t o.type e i z size bytes ht hi hz hsize hby hzs hsz ⟨g,0,none⟩ n n xs q3 (fun j u hu=>by
   have hj:j<n*size:=by
    rcases Nat.lt_or_ge j xs.length with h|h
    ·omega
    ·rw[List.getElem?_eq_none h] at hu;cases hu
   rw[addr_add,Nat.zero_add,cell_of_row w g j _ _ _ q1]
   rw[←q2,List.getElem?_take_of_lt hj,Array.getElem?_toList] at hu
   exact hu) ad m c news hl hnews (by omega) h63 hbytes
  obtain⟨ao,cap,rfl,hp⟩:=own_shape r1
  obtain⟨g',rfl⟩:=hp (by omega)
  unfold Oper.wp
  simp[execOp,ho,resolve,invoke,builtin,hs,hx,hrun,Result.andThen]
  exact h g' cap w' (own_mono r1 (Nat.zero_le _)) (Kept.of_below (below_of_grown r2)) (.inr (World.ownsRow.lt r1 g' rfl).1)
end
def refs (N:List Nd) (i:Int):List Int:=((List.range N.length).filter fun j=>decide ((N.getD j (0,[])).1=i)).map fun(j:Nat)=>(j:Int)+2
theorem refs_mem {N:List Nd} {i f:Int}:f∈refs N i↔∃j,j<N.length∧(N.getD j (0,[])).1=i∧f=(j:Int)+2:=by
 unfold refs
 simp only[List.mem_map,List.mem_filter,List.mem_range,decide_eq_true_eq]
 exact⟨fun⟨j,⟨h1,h2⟩,h3⟩=>⟨j,h1,h2,h3.symm⟩,fun⟨j,h1,h2,h3⟩=>⟨j,⟨h1,h2⟩,h3.symm⟩⟩
theorem refs_snoc (N:List Nd) (x:Nd) (i:Int):refs (N++[x]) i=if x.1=i then refs N i++[(N.length:Int)+2] else refs N i:=by
 unfold refs
 rw[List.length_append,List.length_singleton,List.range_succ,List.filter_append,List.map_append]
 have e1:((List.range N.length).filter fun j=>decide (((N++[x]).getD j (0,[])).1=i))=(List.range N.length).filter fun j=>decide ((N.getD j (0,[])).1=i):=by
  apply List.filter_congr
  intro j hj
  rw[List.mem_range] at hj
  simp only[List.getD_eq_getElem?_getD]
  rw[List.getElem?_append_left hj]
 rw[e1]
 by_cases h:x.1=i
 ·rw[if_pos h]
  simp[h]
 ·rw[if_neg h]
  simp[h]
theorem refs_len (N:List Nd) (i:Int):(refs N i).length≤N.length:=by
 unfold refs
 rw[List.length_map]
 exact Nat.le_trans (List.length_filter_le _ _) (by simp)
end Go.Proofs.Ytnddhkhmbjeefaa

