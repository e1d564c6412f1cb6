/-
  moved by its contract: an order of which a level is taken out and put in at another place. Condition: at most 12 levels.
-/
import Derived.Laws.AppendOwnNone
import Derived.Test.YtnddhkhmbjeefaaB34
import Derived.Test.YtnddhkhmbjeefaaB39
import Derived.Test.YtnddhkhmbjeefaaB10
import Derived.Test.YtnddhkhmbjeefaaB18
namespace Go.Proofs.Ytnddhkhmbjeefaa
open Go.RowKit Go.Lib Go.Maps
theorem era_ne {l:List Int} {k f:Nat} (hk:k<l.length) (h:k≠f):(l.take (k+1)).eraseIdx f=(l.take k).eraseIdx f++[l[k]]:=by
 rw[List.take_succ_eq_append_getElem hk]
 rcases Nat.lt_or_ge f k with h1|h1
 ·rw[List.eraseIdx_append_of_lt_length (by rw[List.length_take];omega)]
 ·rw[List.eraseIdx_append_of_length_le (by rw[List.length_take];omega),List.eraseIdx_of_length_le (l:=l.take k) (by rw[List.length_take];omega),List.eraseIdx_of_length_le (l:=[l[k]]) (by simp only[List.length_take,List.length_singleton];omega)]
theorem era_eq {l:List Int} {k:Nat} (hk:k<l.length):(l.take (k+1)).eraseIdx k=(l.take k).eraseIdx k:=by
 rw[List.take_succ_eq_append_getElem hk,List.eraseIdx_append_of_length_le (by rw[List.length_take];omega),List.eraseIdx_of_length_le (l:=l.take k) (by rw[List.length_take];omega),show k-(l.take k).length=0 by rw[List.length_take];omega]
 simp
section
variable {w:World} {cur:List Int}
set_option maxRecDepth 100000 in
set_option maxHeartbeats 4000000 in
theorem moved_any (ao:Option Addr) (cap f t:Nat) (hn:cur.length≤12) (hz:ZAt w ao cur) (hf:f<cur.length) (ht:t<cur.length):
 Calls Try.prog 72 #[.slice ao cur.length cap,.int .i64 (f:Int),.int .i64 (t:Int)] w fun e w'=>∃so c,e=.returned (.slice so cur.length c)∧w'.ownsRow w.heap.size 3 1 (.slice so cur.length c) cur.length (zC (mv (cur.eraseIdx f) (cur.getD f 0) t))∧Below w.heap.size w w':=by
 obtain⟨i3,hi3,hz30,hz31,hz32⟩:=info_parts Try.info3
 have HZ:=hide hz
 clear hz
 have hf':(f:Int)<(cur.length:Int):=by omega
 go_enter Try.func72,Try.ntmps72
 go_wp2
 go_loopw [7,8] (fun v7 v8 wr=>∃(k:Nat) (L:List Int) (la:Option Addr) (lc:Nat),v8=.int .i64 (k:Int)∧k≤cur.length∧v7=.slice la L.length lc∧Hid (L=(cur.take k).eraseIdx f)∧Hid (wr.ownsRow w.heap.size 3 1 (.slice la L.length lc) L.length (zC L))∧Hid (Below w.heap.size w wr)) (fun _ v _=>cur.length-(RowKit.intOf v).toNat)
 case atStart=>exact⟨0,[],none,0,rfl,Nat.zero_le _,rfl,hide (by simp),World.ownsRow_nil _ _ _ _,Below.refl _ _⟩
 case round=>
  obtain⟨k,L,la,lc,rfl,hk,rfl,HL,OW,BL⟩:=hrel
  have hL12:L.length≤12:=by
   rw[HL.out]
   have:=List.length_eraseIdx_le (cur.take k) f
   rw[List.length_take] at this
   omega
  by_cases hlt:k<cur.length
  ·have hlt':(k:Int)<(cur.length:Int):=by omega
   by_cases hkf:k=f
   ·subst hkf
    have HL2:Hid (L=(cur.take (k+1)).eraseIdx k):=by unfold Hid;rw[era_eq hlt];exact HL.out
    clear HL
    go_wp2
    go_roundw
    case rel=>exact⟨k+1,L,la,lc,by go_num,by omega,rfl,HL2,OW,BL⟩
    case measure=>simp[RowKit.intOf];omega
   ·have hkf1:¬(k:Int)=(f:Int):=by omega
    have hkf2:((k:Int)==(f:Int))=false:=beq_eq_false_iff_ne.2 hkf1
    obtain⟨zb,zo,hao,hzb,q1⟩:=(HZ.out.below BL.out).get hlt
    subst hao
    have HL2:Hid (L++[cur.getD k 0]=(cur.take (k+1)).eraseIdx f):=by
     unfold Hid
     rw[era_ne hlt hkf,←HL.out,List.getD_eq_getElem?_getD,List.getElem?_eq_getElem hlt]
     rfl
    generalize cur.getD k 0=x at *
    have hwz:=BL.out.size
    have YY:Hid (Below wr.heap.size wr (wr.alloc (.cells #[.int .i64 x] 3))):=al (Below.refl _ _) _
    have ROW:=hide (own_below OW.out YY.out)
    have SZ2:Hid (w.heap.size≤(wr.alloc (.cells #[.int .i64 x] 3)).heap.size):=Nat.le_trans hwz YY.out.size
    clear HL
    go_upto_region 4 with(at_builtin;refine wpList_append_lies _ rfl (.tmp 19) (.tmp 24) 22 rfl w.heap.size 3 i3 (.int .i64 0) 1 8 Try.underlying22 hi3 hz30 hz31 hz32 rfl (by decide) _ L.length (zC L) rfl ROW.out ⟨wr.heap.size,0,none⟩ 1 1 [.int .i64 x] rfl rfl (one_new wr _ _) (by simp[Value.oneCell']) (by decide) (by unfold maxLen;omega) (by omega) SZ2.out _ rfl ?_;intro g8 cap8 w8 h1 h2 h3 h4;have BL8:Hid (Below w.heap.size w w8):=((BL.out.trans (YY.out.mono hwz)).grown h2 SZ2.out (fun j hj=>(World.ownsRow.lt OW.out j hj).1));have OW8:=hide h1;clear h1 h2 h3 h4)
    have OW9:Hid (w8.ownsRow w.heap.size 3 1 (.slice (some ⟨g8,0,none⟩) (L++[x]).length cap8) (L++[x]).length (zC (L++[x]))):=by
     have:=OW8.out
     unfold Hid
     rw[show(L++[x]).length=L.length+1 by simp,show zC (L++[x])=zC L++[.int .i64 x] by simp[zC]]
     exact this
    have hl3:(L++[x]).length=L.length+1:=by simp
    have HL3:=hide hl3
    clear ROW SZ2 YY OW BL OW8 q1 hl3 hkf hkf1 hkf2
    go_wp2
    go_roundw
    case rel=>exact⟨k+1,L++[x],_,_,by go_num,by omega,by rw[HL3.out],HL2,OW9,BL8⟩
    case measure=>simp[RowKit.intOf];omega
  ·have hlt':¬(k:Int)<(cur.length:Int):=by omega
   have HLE:Hid (L=cur.eraseIdx f):=by
    unfold Hid
    have:=HL.out
    rwa [List.take_of_length_le (by omega)] at this
   have hLn:L.length+1=cur.length:=by rw[HLE.out,List.length_eraseIdx_of_lt hf];omega
   clear HL
   obtain⟨zb,zo,hao,hzb,q1⟩:=(HZ.out.below BL.out).get hf
   subst hao
   have HMV:Hid (zC (mv L (cur.getD f 0) t)=(zC L).take t++[.int .i64 (cur.getD f 0)]++(zC L).drop t):=by
    unfold Hid mv
    simp[zC,List.map_take,List.map_drop]
   obtain⟨x,hx⟩:∃x,cur.getD f 0=x:=⟨_,rfl⟩
   rw[hx] at q1 HMV
   have HX:Hid (cur[f]=x):=by
    unfold Hid
    rw[←hx,List.getD_eq_getElem?_getD,List.getElem?_eq_getElem hf]
    rfl
   clear hx
   have hwz:=BL.out.size
   have htl:t≤L.length:=by omega
   have hlz:(zC L).length=L.length:=by simp[zC]
   have HLZ:=hide hlz
   have OC:Hid (∀u∈zC L,u.oneCell'=true):=fun u hu=>by
    obtain⟨z,_,rfl⟩:=List.mem_map.1 hu
    rfl
   rcases (show(la=none∧L.length=0∧lc=0)∨∃lg,la=some ⟨lg,0,none⟩ by
    rcases OW.out.2 with⟨e,h⟩|⟨g,_,_,e,_⟩
    ·injection e with e1 e2 e3
     exact .inl ⟨e1,e2,e3⟩
    ·injection e with e
     exact .inr ⟨g,e⟩) with⟨rfl,hl0,rfl⟩|⟨lg,rfl⟩
   ·have hc1:cur.length=1:=by omega
    have ht0:t=0:=by omega
    subst ht0
    have hL0:L=[]:=List.eq_nil_of_length_eq_zero hl0
    subst hL0
    have YY:Hid (Below wr.heap.size wr (wr.alloc (.cells #[.int .i64 x] 3))):=al (Below.refl _ _) _
    have SZ2:Hid (w.heap.size≤(wr.alloc (.cells #[.int .i64 x] 3)).heap.size):=Nat.le_trans hwz YY.out.size
    have HC1:=hide hc1
    clear hlz hl0 hLn htl hc1
    go_upto_region 10 with(at_builtin;first
     |(refine wpList_append_own_none rfl (.tmp 26) (.tmp 29) 22 rfl w.heap.size 3 i3 1 Try.underlying22 hi3 (.slice none 0 0) 0 [] rfl (World.ownsRow_nil _ _ _ _) rfl ?_)
     |(refine wpList_append_lies _ rfl (.tmp 31) (.tmp 36) 22 rfl w.heap.size 3 i3 (.int .i64 0) 1 8 Try.underlying22 hi3 hz30 hz31 hz32 rfl (by decide) _ 0 [] rfl (World.ownsRow_nil _ _ _ _) ⟨wr.heap.size,0,none⟩ 1 1 [.int .i64 x] rfl rfl (one_new wr _ _) (by simp[Value.oneCell']) (by decide) (by unfold maxLen;omega) (by omega) SZ2.out _ rfl ?_;intro g8 cap8 w8 h1 h2 h3 h4;have BL8:Hid (Below w.heap.size w w8):=((BL.out.trans (YY.out.mono hwz)).grown h2 SZ2.out (fun j hj=>by cases hj));have OW8:=hide h1;clear h1 h2 h3 h4))
    go_wp2_with (at_builtin;refine wpList_append_own_none rfl (.tmp 38) (.tmp 41) 22 rfl w.heap.size 3 i3 1 Try.underlying22 hi3 (.slice (some ⟨g8,0,none⟩) 1 cap8) 1 [.int .i64 x] rfl OW8.out rfl ?_)
    go_ret
    exact⟨some ⟨g8,0,none⟩,cap8,by rw[HC1.out];rfl,by rw[←HLE.out,HX.out,HMV.out,HC1.out];exact OW8.out,BL8.out⟩
   ·have hcl:L.length≤lc∧lc≤maxLen:=by
     rcases OW.out.2 with⟨e,_⟩|⟨_,_,_,e,_,_,q1,q2,_⟩
     ·cases e
     ·injection e with _ _ e
      subst e
      exact⟨q1,q2⟩
    have hc1:(t:Int)≤(lc:Int):=by omega
    have hc2:=hcl.1
    have hc3:=hcl.2
    have hc4:(0:Int)≤(t:Int):=by omega
    have hc5:(t:Int)≤(L.length:Int):=by omega
    have hc6:(L.length:Int)≤(lc:Int):=by omega
    have NW1:Hid (∀i u,((zC L).take t)[i]? =some u→wr.cell? ((⟨lg,0,none⟩:Addr).add i)=some u):=fun i u hu=>by
     rw[List.getElem?_take] at hu
     split at hu
     ·rw[addr_add,Nat.zero_add,World.ownsRow.cellAt OW.out i (by omega)]
      exact hu
     ·cases hu
    have LT1:Hid (((zC L).take t).length=t*1):=by unfold Hid;rw[List.length_take,hlz];omega
    clear hlz hcl
    go_upto_region 9 with(at_builtin;refine wpList_append_own_at _ rfl (.tmp 26) (.tmp 29) 22 rfl w.heap.size 3 i3 (.int .i64 0) 1 8 Try.underlying22 hi3 hz30 hz31 hz32 rfl (by decide) (.slice none 0 0) 0 [] rfl (World.ownsRow_nil _ _ _ _) ⟨lg,0,none⟩ t _ ((zC L).take t) rfl LT1.out NW1.out (fun u hu=>OC.out u (List.mem_of_mem_take hu)) (by unfold maxLen;omega) (by omega) hwz ?_;intro v9 w9 h1 h2 h3 h4;obtain⟨ma,mc,rfl,_⟩:=own_shape h1;have O9:=hide h1;have G9:=hide h2;have B9:=hide h4;clear h1 h2 h3 h4)
    have OA:Hid (w9.ownsRow w.heap.size 3 1 (.slice ma t mc) t ((zC L).take t)):=by
     have:=O9.out
     simpa [Hid] using this
    have y9:Hid (Below wr.heap.size wr w9):=(kept_grown G9.out).below (Nat.le_refl _) (fun _ e=>by cases e)
    have R9:=hide (own_below OW.out y9.out)
    have q9:=(y9.out.cell (p:=⟨zb,zo+f,none⟩) hzb).trans q1
    have MB9:Hid (∀j,(Value.slice ma t mc).ownBlock=some j→wr.heap.size≤j):=fun j hj=>by
     rcases B9.out with e|e
     ·rw[Nat.zero_add] at e
      rw[e] at hj
      cases hj
     ·rw[Nat.zero_add] at e
      rw[e] at hj
      have:=Option.some.inj hj
      omega
    have BL9:Hid (Below w.heap.size w w9):=BL.out.trans (y9.out.mono hwz)
    have YY:Hid (Below w9.heap.size w9 (w9.alloc (.cells #[.int .i64 x] 3))):=al (Below.refl _ _) _
    have ROW:=hide (own_below OA.out YY.out)
    have SZ2:Hid (w.heap.size≤(w9.alloc (.cells #[.int .i64 x] 3)).heap.size):=Nat.le_trans BL9.out.size YY.out.size
    clear O9 G9 B9 NW1 LT1 q1
    go_upto_region 10 with(at_builtin;refine wpList_append_lies _ rfl (.tmp 31) (.tmp 36) 22 rfl w.heap.size 3 i3 (.int .i64 0) 1 8 Try.underlying22 hi3 hz30 hz31 hz32 rfl (by decide) _ t ((zC L).take t) rfl ROW.out ⟨w9.heap.size,0,none⟩ 1 1 [.int .i64 x] rfl rfl (one_new w9 _ _) (by simp[Value.oneCell']) (by decide) (by unfold maxLen;omega) (by omega) SZ2.out _ rfl ?_;intro g8 cap8 w8 h1 h2 h3 h4;have BL8:Hid (Below w.heap.size w w8):=((BL9.out.trans (YY.out.mono BL9.out.size)).grown h2 SZ2.out (fun j hj=>(World.ownsRow.lt OA.out j hj).1));have R8:Hid (w8.ownsRow w.heap.size 3 1 (.slice (some ⟨lg,0,none⟩) L.length lc) L.length (zC L)):=own_kept (own_below R9.out YY.out) (kept_grown h2) (fun j hj e=>by have h5:=MB9.out j e;have h6:=(own_low OW.out hj).2;omega);have OW8:=hide h1;clear h1 h2 h3 h4)
    clear OA y9 R9 q9 MB9 BL9 YY ROW SZ2
    have SW8:Hid (w.heap.size≤w8.heap.size):=BL8.out.size
    by_cases hcap:lc=t
    ·subst hcap
     have hle:L.length=lc:=by omega
     have HLE2:=hide hle
     have D0:Hid ((zC L).drop lc=[]):=List.drop_of_length_le (by rw[HLZ.out];omega)
     clear hle
     go_wp2_with (at_builtin;refine wpList_append_own_at _ rfl (.tmp 38) (.tmp 41) 22 rfl w.heap.size 3 i3 (.int .i64 0) 1 8 Try.underlying22 hi3 hz30 hz31 hz32 rfl (by decide) (.slice (some ⟨g8,0,none⟩) (lc+1) cap8) (lc+1) ((zC L).take lc++[.int .i64 x]) rfl OW8.out ⟨lg,0,none⟩ 0 _ [] rfl rfl (fun i u hu=>(by simp at hu)) (fun u hu=>(by simp at hu)) (by unfold maxLen;omega) (by omega) SW8.out ?_;intro v10 w10 h1 h2 h3 h4;have BL10:Hid (Below w.heap.size w w10):=(BL8.out.grown h2 SW8.out (fun j hj=>(World.ownsRow.lt OW8.out j hj).1));rw[show lc+1+0=cur.length by have:=HLE2.out;omega] at h1;obtain⟨sl2,cl2,rfl,_⟩:=own_shape h1;have O10:=hide h1;clear h1 h2 h3 h4)
     go_ret
     exact⟨sl2,cl2,rfl,by rw[←HLE.out,HX.out,HMV.out,D0.out];exact O10.out,BL10.out⟩
    ·have hne1:¬lc-t=0:=by omega
     have hne2:¬t=lc:=fun e=>hcap e.symm
     have NW2:Hid (∀i u,((zC L).drop t)[i]? =some u→w8.cell? ((⟨lg,t,none⟩:Addr).add i)=some u):=fun i u hu=>by
      rw[List.getElem?_drop] at hu
      have hi:t+i<L.length:=by
       rw[←HLZ.out]
       rcases Nat.lt_or_ge (t+i) (zC L).length with h|h
       ·exact h
       ·rw[List.getElem?_eq_none h] at hu;cases hu
      rw[addr_add,World.ownsRow.cellAt R8.out (t+i) (by omega)]
      exact hu
     have LT2:Hid (((zC L).drop t).length=(L.length-t)*1):=by unfold Hid;rw[List.length_drop,HLZ.out];omega
     go_wp2_with (at_builtin;refine wpList_append_own_at _ rfl (.tmp 38) (.tmp 41) 22 rfl w.heap.size 3 i3 (.int .i64 0) 1 8 Try.underlying22 hi3 hz30 hz31 hz32 rfl (by decide) (.slice (some ⟨g8,0,none⟩) (t+1) cap8) (t+1) ((zC L).take t++[.int .i64 x]) rfl OW8.out ⟨lg,t,none⟩ (L.length-t) _ ((zC L).drop t) rfl LT2.out NW2.out (fun u hu=>OC.out u (List.mem_of_mem_drop hu)) (by unfold maxLen;omega) (by omega) SW8.out ?_;intro v10 w10 h1 h2 h3 h4;have BL10:Hid (Below w.heap.size w w10):=(BL8.out.grown h2 SW8.out (fun j hj=>(World.ownsRow.lt OW8.out j hj).1));rw[show t+1+(L.length-t)=cur.length by omega] at h1;obtain⟨sl2,cl2,rfl,_⟩:=own_shape h1;have O10:=hide h1;clear h1 h2 h3 h4)
     go_ret
     exact⟨sl2,cl2,rfl,by rw[←HLE.out,HX.out,HMV.out];exact O10.out,BL10.out⟩
end
end Go.Proofs.Ytnddhkhmbjeefaa
namespace Go.Proofs.Ytnddhkhmbjeefaa
open Go.RowKit
def NewAt (l:Nat) (N N':List Nd):Prop:=∀k x,N.length≤k→N'[k]? =some x→(l:Int)≤x.1
def Asks (S:List Int) (φ:Phi) (i:Nat):Prop:=∃p c,Pnt S p∧((c:Nat):Int)<S.getD i 0∧φ (upd p i c)≠φ p
section
variable {S:List Int} {M:Int} {N N1 N2:List Nd} {φ ψ:Phi} {l i c:Nat} {ks:List Int} {q:Nat}
theorem NewAt.refl:NewAt l N N:=fun k x hk h=>by rw[List.getElem?_eq_none hk] at h;cases h
theorem NewAt.trans (a:NewAt l N N1) (h:∃T,N2=N1++T) (b:NewAt l N1 N2):NewAt l N N2:=fun k x hk hx=>by
 obtain⟨T,rfl⟩:=h
 rcases Nat.lt_or_ge k N1.length with h1|h1
 ·rw[List.getElem?_append_left h1] at hx
  exact a k x hk hx
 ·exact b k x h1 hx
theorem NewAt.mono (a:NewAt l N N1) {l':Nat} (h:l'≤l):NewAt l' N N1:=fun k x hk hx=>by have:=a k x hk hx;omega
theorem kids_new {step:List Nd→Phi→Int×Int×List Nd} {l':Nat}:∀(fs:List Phi) (N:List Nd),Ok S M N→(∀φ∈fs,∀N,Ok S M N→Out S M N φ l (step N φ)∧NewAt l' N (step N φ).2.2)→NewAt l' N (kidsF step N fs).2.2
 |[],N,_,_=>by unfold kidsF;exact NewAt.refl
 |φ::t,N,h,hs=>by
  obtain⟨o,n⟩:=hs φ (by simp) N h
  have ih:=kids_new t (step N φ).2.2 o.ok (fun ψ hψ=>hs ψ (by simp[hψ]))
  have ex:=(kids_out t (step N φ).2.2 o.ok (fun ψ hψ N hN=>(hs ψ (by simp[hψ]) N hN).1)).ext
  unfold kidsF
  split
  ·split
   ·exact n.trans ex ih
   ·exact n.trans ex ih
  ·exact n
theorem mk_new (lv:Int) (hl:(l:Int)≤lv):NewAt l N (mkF S M N lv ks).2.2:=by
 have mk:=mkF_P S M N lv ks
 rcases mk with⟨_,_,_,e⟩|⟨_,_,_,_,e⟩|⟨_,_,_,_,e⟩|⟨_,_,_,_,_,_,e⟩|⟨_,_,_,_,_,_,e⟩
 ·rw[e];exact NewAt.refl
 ·rw[e];exact NewAt.refl
 ·rw[e];exact NewAt.refl
 ·rw[e];exact NewAt.refl
 ·rw[e]
  intro k x hk hx
  rw[List.getElem?_append_right hk] at hx
  rcases Nat.eq_zero_or_pos (k-N.length) with h|h
  ·rw[h] at hx
   simp at hx
   rw[←hx]
   exact hl
  ·rw[List.getElem?_eq_none (by simp;omega)] at hx
   cases hx
theorem mk_ext (lv:Int):∃T,(mkF S M N lv ks).2.2=N++T:=by
 rcases mkF_P S M N lv ks with⟨_,_,_,e⟩|⟨_,_,_,_,e⟩|⟨_,_,_,_,e⟩|⟨_,_,_,_,_,_,e⟩|⟨_,_,_,_,_,_,e⟩
 ·exact⟨[],by rw[e];simp⟩
 ·exact⟨[],by rw[e];simp⟩
 ·exact⟨[],by rw[e];simp⟩
 ·exact⟨[],by rw[e];simp⟩
 ·exact⟨_,e⟩
theorem ins_new:∀(d l:Nat),S.length-l=d→l≤S.length→∀N,Ok S M N→∀φ,Hang S φ l→NewAt l N (ins S M N φ).2.2:=by
 intro d
 induction d with
 |zero=>
  intro l hd hl N h φ hg
  have e:l=S.length:=by omega
  subst e
  obtain⟨r,a⟩:=Hang.const (N:=N) h.sz hg
  rw[ins_rep h a]
  exact NewAt.refl
 |succ d ih=>
  intro l hd hl N h φ hg
  have hl':l<S.length:=by omega
  rw[ins_exp h hl' hg]
  have kn:NewAt (l+1) N (kidsF (ins S M) N (cuts S φ l)).2.2:=kids_new (l:=l+1) _ _ h (fun ψ hψ N hN=>by
   obtain⟨c,hc,rfl⟩:=cuts_mem hψ
   exact⟨ins_out hN (by omega) (hg.cut hc),ih (l+1) (by omega) (by omega) N hN _ (hg.cut hc)⟩)
  unfold expF
  split
  ·exact(kn.mono (by omega)).trans (mk_ext _) (mk_new _ (Int.le_refl _))
  ·exact kn.mono (by omega)
theorem cuts_out (h:Ok S M N) (hl:l<S.length) (hg:Hang S φ l):OutK S M N (cuts S φ l) (l+1) (kidsF (ins S M) N (cuts S φ l)):=kids_out _ _ h (fun ψ hψ N hN=>by
 obtain⟨c,hc,rfl⟩:=cuts_mem hψ
 exact ins_out hN (by omega) (hg.cut hc))
theorem cuts_new (h:Ok S M N) (hl:l<S.length) (hg:Hang S φ l):NewAt (l+1) N (kidsF (ins S M) N (cuts S φ l)).2.2:=kids_new (l:=l+1) _ _ h (fun ψ hψ N hN=>by
 obtain⟨c,hc,rfl⟩:=cuts_mem hψ
 exact⟨ins_out hN (by omega) (hg.cut hc),ins_new _ _ rfl (by omega) N hN _ (hg.cut hc)⟩)
theorem norep (h1:Ok S M N1) (h:Ok S M N) (ex:∃T,N1=N++T) (nw:NewAt (i+1) N N1) (ha:Asks S φ i) (hn:¬ ∃r,Rep S N φ r):¬ ∃r,Rep S N1 φ r:=by
 rintro⟨r,hr,hs⟩
 obtain⟨T,rfl⟩:=ex
 by_cases hN:hasR N r
 ·exact hn ⟨r,hN,fun p hp=>by rw[←sayR_app h hp hN];exact hs p hp⟩
 ·have h2:(N.length:Int)+2≤r:=by
   rcases Int.lt_or_le r ((N.length:Int)+2) with h3|h3
   ·exact absurd ⟨hr.1,h3⟩ hN
   ·exact h3
  obtain⟨l',ks,hd⟩:=h1.ndAt (by omega) hr.2
  have hl:((i+1:Nat):Int)≤(l':Int):=nw _ _ (by omega) hd.at_
  have hh:=say_hang h1 _ r (Nat.le_refl _) hr (i+1) (by rw[hd.lev];exact hl)
  obtain⟨p,c,hp,hc,hne⟩:=ha
  refine hne ?_
  rw[←hs _ (hp.upd hc),←hs p hp]
  exact hh _ _ (hp.upd hc) hp (fun j hj _=>upd_ne p c (by omega))
theorem ins_cases (h:Ok S M N) (hi:i<S.length) (hg:Hang S φ i) (ha:Asks S φ i) (hn:¬ ∃r,Rep S N φ r) (hk:(kidsF (ins S M) N (cuts S φ i)).2.1=0):
 (((kidsF (ins S M) N (cuts S φ i)).2.2.length:Int)<M∧ins S M N φ=(((kidsF (ins S M) N (cuts S φ i)).2.2.length:Int)+2,0,(kidsF (ins S M) N (cuts S φ i)).2.2++[((i:Int),(kidsF (ins S M) N (cuts S φ i)).1)]))∨(M≤((kidsF (ins S M) N (cuts S φ i)).2.2.length:Int)∧(ins S M N φ).2.1=2):=by
 have o:=ins_out h (by omega) hg
 have ok:=cuts_out h hi hg
 have nr:=norep ok.ok h ok.ext (cuts_new h hi hg) ha hn
 rw[ins_exp h hi hg] at o ⊢
 unfold expF at o ⊢
 rw[if_pos hk] at o ⊢
 generalize kidsF (ins S M) N (cuts S φ i)=y at *
 have mk:=mkF_P S M y.2.2 (i:Int) y.1
 have res:=o.res
 have hrep:(mkF S M y.2.2 (i:Int) y.1).2.2=y.2.2→(mkF S M y.2.2 (i:Int) y.1).2.1≠0:=fun e e0=>by
  rcases res with⟨_,a,_⟩|⟨a,_⟩
  ·rw[e] at a
   exact nr ⟨_,a⟩
  ·omega
 rcases mk with⟨_,_,e,_⟩|⟨_,_,_,e,e2⟩|⟨_,_,_,e,e2⟩|⟨_,_,_,hm,_,e,_⟩|⟨_,_,_,hm,e1,e2,e3⟩
 ·rcases res with⟨a,_⟩|⟨a,_⟩<;>omega
 ·exact absurd e (hrep e2)
 ·exact absurd e (hrep e2)
 ·exact .inr ⟨hm,e⟩
 ·exact .inl ⟨hm,Prod.ext e1 (Prod.ext e2 e3)⟩
def OverP (S:List Int) (M:Int) (q:Nat) (N:List Nd) (φ:Phi):Prop:=(ins S M N φ).2.1=0→M<((ins S M N φ).2.2.length:Int)+(q:Int)
theorem OverP.zero (h:Ok S M N) (hl:l≤S.length) (hg:Hang S φ l) (o:OverP S M 0 N φ):(ins S M N φ).2.1=2:=by
 have x:=ins_out h hl hg
 rcases x.res with⟨e,_⟩|⟨e,_⟩
 ·have:=o e
  have:=x.ok.few
  omega
 ·exact e
theorem OverP.here (h:Ok S M N) (hl:l≤S.length) (hg:Hang S φ l) (hn:¬ ∃r,Rep S N φ r) (hm:M<(N.length:Int)+(q:Int)+1):OverP S M q N φ:=fun e=>by
 have x:=ins_out h hl hg
 obtain⟨T,eT⟩:=x.ext
 rcases x.res with⟨_,a,_⟩|⟨a,_⟩
 ·rw[eT] at a ⊢
  rcases T with _|⟨y,T⟩
  ·rw[List.append_nil] at a
   exact absurd ⟨_,a⟩ hn
  ·rw[List.length_append,List.length_cons]
   omega
 ·omega
theorem kids_app {step:List Nd→Phi→Int×Int×List Nd}:∀(t:List Phi) (N:List Nd) (ks:List Int) (N1:List Nd),kidsF step N t=(ks,0,N1)→∀u,(kidsF step N (t++u)).2=(kidsF step N1 u).2∧((kidsF step N1 u).2.1=0→(kidsF step N (t++u)).1=ks++(kidsF step N1 u).1)
 |[],N,ks,N1,h,u=>by
  simp only[kidsF,Prod.mk.injEq] at h
  obtain⟨rfl,_,rfl⟩:=h
  exact⟨rfl,fun _=>rfl⟩
 |ψ::t,N,ks,N1,h,u=>by
  unfold kidsF at h
  rw[List.cons_append]
  by_cases h1:(step N ψ).2.1=0
  ·rw[if_pos h1] at h
   by_cases h2:(kidsF step (step N ψ).2.2 t).2.1=0
   ·rw[if_pos h2] at h
    simp only[Prod.mk.injEq] at h
    obtain⟨rfl,_,rfl⟩:=h
    obtain⟨e1,e2⟩:=kids_app t (step N ψ).2.2 _ _ (Prod.ext rfl (Prod.ext h2 rfl)) u
    rw[show kidsF step N (ψ::(t++u))=if (step N ψ).2.1=0 then(if (kidsF step (step N ψ).2.2 (t++u)).2.1=0 then((step N ψ).1::(kidsF step (step N ψ).2.2 (t++u)).1,0,(kidsF step (step N ψ).2.2 (t++u)).2.2) else([],(kidsF step (step N ψ).2.2 (t++u)).2.1,(kidsF step (step N ψ).2.2 (t++u)).2.2)) else([],(step N ψ).2.1,(step N ψ).2.2) from rfl,if_pos h1,e1]
    by_cases h3:(kidsF step (kidsF step (step N ψ).2.2 t).2.2 u).2.1=0
    ·rw[if_pos h3]
     exact⟨Prod.ext h3.symm rfl,fun _=>by rw[e2 h3];rfl⟩
    ·rw[if_neg h3]
     exact⟨rfl,fun h=>absurd h h3⟩
   ·rw[if_neg h2] at h
    simp only[Prod.mk.injEq] at h
    exact absurd h.2.1 h2
  ·rw[if_neg h1] at h
   simp only[Prod.mk.injEq] at h
   exact absurd h.2.1 h1
theorem OverP.cut (h:Ok S M N) (hi:i<S.length) (hg:Hang S φ i) (ha:Asks S φ i) (hn:¬ ∃r,Rep S N φ r) (hc:(c:Int)<S.getD i 0) (hk:kidsF (ins S M) N ((cuts S φ i).take c)=(ks,0,N1)) (h1:Ok S M N1) (o:OverP S M (q+1) N1 (cutP φ i c)):OverP S M q N φ:=fun e=>by
 have hcl:c<(cuts S φ i).length:=by rw[cuts_length];omega
 have hget:(cuts S φ i)[c]=cutP φ i c:=by simp[cuts]
 have hsplit:cuts S φ i=(cuts S φ i).take c++([cutP φ i c]++(cuts S φ i).drop (c+1)):=by
  rw[←hget,List.singleton_append,List.getElem_cons_drop,List.take_append_drop]
 obtain⟨e1,_⟩:=kids_app _ _ _ _ hk ([cutP φ i c]++(cuts S φ i).drop (c+1))
 rw[←hsplit] at e1
 have hw:(kidsF (ins S M) N (cuts S φ i)).2.1=0:=by
  rw[ins_exp h hi hg] at e
  unfold expF at e
  by_cases hh:(kidsF (ins S M) N (cuts S φ i)).2.1=0
  ·exact hh
  ·rw[if_neg hh] at e
   exact absurd e hh
 have hx:=ins_out h1 (show i+1≤S.length by omega) (hg.cut hc)
 have hone:(ins S M N1 (cutP φ i c)).2.1=0:=by
  rw[e1] at hw
  rw[List.singleton_append] at hw
  unfold kidsF at hw
  by_cases hh:(ins S M N1 (cutP φ i c)).2.1=0
  ·exact hh
  ·rw[if_neg hh] at hw
   exact absurd hw hh
 have o1:=o hone
 have hex:∃T,(kidsF (ins S M) N (cuts S φ i)).2.2=(ins S M N1 (cutP φ i c)).2.2++T:=by
  have hkx:kidsF (ins S M) N1 [cutP φ i c]=([(ins S M N1 (cutP φ i c)).1],0,(ins S M N1 (cutP φ i c)).2.2):=by
   unfold kidsF
   rw[if_pos hone]
   unfold kidsF
   simp
  obtain⟨e3,_⟩:=kids_app _ _ _ _ hkx ((cuts S φ i).drop (c+1))
  rw[e1,e3]
  exact(kids_out ((cuts S φ i).drop (c+1)) _ hx.ok (fun ψ hψ N hN=>by
   obtain⟨c',hc',rfl⟩:=cuts_mem (List.mem_of_mem_drop hψ)
   exact ins_out hN (show i+1≤S.length by omega) (hg.cut hc'))).ext
 obtain⟨T,eT⟩:=hex
 rcases ins_cases h hi hg ha hn hw with⟨_,e4⟩|⟨_,e4⟩
 ·rw[e4,eT]
  simp only[List.length_append,List.length_singleton]
  omega
 ·omega
end
abbrev Dpd (S:List Int) (N:List Nd) (f:Int) (l:Nat):Prop:=Asks S (fun p=>sayR N p f) l
section
variable {S:List Int} {M:Int} {N T:List Nd} {f:Int} {φ:Phi} {o:List Int} {l j i c:Nat} {ks:List Int} {p p':Nat→Nat}
theorem upd_comm (p:Nat→Nat) {a b:Nat} (h:a≠b) (x y:Nat):upd (upd p a x) b y=upd (upd p b y) a x:=by
 funext k
 by_cases h1:k=a
 ·subst h1;rw[upd_ne _ _ h,upd_at,upd_at]
 ·by_cases h2:k=b
  ·subst h2;rw[upd_at,upd_ne _ _ h1,upd_at]
  ·rw[upd_ne _ _ h2,upd_ne _ _ h1,upd_ne _ _ h1,upd_ne _ _ h2]
theorem upd_twice (p:Nat→Nat) (a x y:Nat):upd (upd p a x) a y=upd p a y:=by
 funext k
 by_cases h:k=a
 ·subst h;rw[upd_at,upd_at]
 ·rw[upd_ne _ _ h,upd_ne _ _ h,upd_ne _ _ h]
theorem Asks.lt (h:Asks S φ l):l<S.length:=by
 obtain⟨_,c,_,hc,_⟩:=h
 rcases Nat.lt_or_ge l S.length with h1|h1
 ·exact h1
 ·rw[List.getD_eq_getElem?_getD,List.getElem?_eq_none h1] at hc
  simp only[Option.getD_none] at hc
  omega
theorem dep_low (h:¬2≤f):¬Dpd S N f l:=by
 rintro⟨p,c,_,_,hne⟩
 exact hne (by show sayR N (upd p l c) f=sayR N p f;rw[sayR_low h,sayR_low h])
theorem dep_app (h:Ok S M N) (hf:hasR N f):Dpd S (N++T) f l↔Dpd S N f l:=by
 constructor
 ·rintro⟨p,c,hp,hc,hne⟩
  exact⟨p,c,hp,hc,fun e=>hne (by show sayR (N++T) (upd p l c) f=sayR (N++T) p f;rw[sayR_app h (hp.upd hc) hf,sayR_app h hp hf];exact e)⟩
 ·rintro⟨p,c,hp,hc,hne⟩
  exact⟨p,c,hp,hc,fun e=>hne (by replace e:sayR (N++T) (upd p l c) f=sayR (N++T) p f:=e;rw[sayR_app h (hp.upd hc) hf,sayR_app h hp hf] at e;exact e)⟩
theorem dep_node (h:Ok S M N) (h2:2≤f) (hf:f<(N.length:Int)+2) (hn:NdAt S N f l ks):Dpd S N f j↔j=l∨∃c,c<ks.length∧Dpd S N (ks.getD c 0) j:=by
 constructor
 ·rintro⟨p,c,hp,hc,hne⟩
  by_cases e:j=l
  ·exact .inl e
  ·refine .inr ⟨p l,hn.cls hp,p,c,hp,hc,fun e1=>hne ?_⟩
   show sayR N (upd p j c) f=sayR N p f
   rw[hn.says h (hp.upd hc) h2 hf,hn.says h hp h2 hf,upd_ne p c (fun x=>e x.symm)]
   exact e1
 ·rintro(rfl|⟨c,hc,p,c',hp,hc',hne⟩)
  ·by_cases hx:∃c,c<ks.length∧ks.getD c 0≠ks.getD 0 0
   ·obtain⟨c,hc,hne⟩:=hx
    have hpos:=hn.pos h
    obtain⟨a0,a1,_⟩:=hn.kid c hc
    obtain⟨b0,b1,_⟩:=hn.kid 0 hpos
    have hcc:(c:Int)<S.getD j 0:=by have:=hn.len;omega
    have hcz:((0:Nat):Int)<S.getD j 0:=by have:=hn.len;omega
    by_cases hs:∀p,Pnt S p→sayR N p (ks.getD c 0)=sayR N p (ks.getD 0 0)
    ·exact absurd (h.canon ⟨a0,by omega⟩ ⟨b0,by omega⟩ hs) hne
    ·obtain⟨p,hp⟩:=Classical.not_forall.1 hs
     obtain⟨hp,hpn⟩:=Classical.not_imp.1 hp
     refine⟨upd p j 0,c,hp.upd hcz,hcc,fun e=>hpn ?_⟩
     rw[hn.kid_says h hp h2 hf hc,hn.kid_says h hp h2 hf hpos]
     simp only[upd_twice] at e
     exact e
   ·exact absurd (One.of_all (z:=ks.getD 0 0) (hn.pos h) (fun c hc=>by
     by_cases e:ks.getD c 0=ks.getD 0 0
     ·exact e
     ·exact absurd ⟨c,hc,e⟩ hx)) hn.one
  ·by_cases e:j=l
   ·subst e
    obtain⟨k0,k1,k2⟩:=hn.kid c hc
    exact absurd (sayR_upd h hp hc' _ _ (Nat.le_refl _) k0 (by omega) k2) hne
   ·have hcc:(c:Int)<S.getD l 0:=by have:=hn.len;omega
    refine⟨upd p l c,c',hp.upd hcc,hc',fun e1=>hne ?_⟩
    show sayR N (upd p j c') (ks.getD c 0)=sayR N p (ks.getD c 0)
    rw[hn.kid_says h (hp.upd hc') h2 hf hc,hn.kid_says h hp h2 hf hc,upd_comm p e]
    exact e1
theorem dep_some (h:Ok S M N) (h2:2≤f) (hf:f<(N.length:Int)+2):∃l,Dpd S N f l:=by
 obtain⟨l,ks,hn⟩:=h.ndAt h2 hf
 exact⟨l,(dep_node h h2 hf hn).2 (.inl rfl)⟩
theorem led_set (ho:IsOrd S o) (hi:i<o.length) (c:Nat):ledP o (upd p' i c)=upd (ledP o p') (o[i]).toNat c:=by
 funext k
 have hr:=ho.rng _ (List.getElem_mem hi)
 by_cases e:k=(o[i]).toNat
 ·subst e
  rw[upd_at]
  unfold ledP
  rw[show(((o[i]).toNat:Nat):Int)=o[i] by omega,posO_nodup ho.nod (List.getElem?_eq_getElem hi),upd_at]
 ·rw[upd_ne _ _ e]
  unfold ledP
  refine upd_ne _ _ (fun x=>e ?_)
  by_cases hm:(k:Int)∈o
  ·have:=posO_get hm
   rw[x,List.getElem?_eq_getElem hi] at this
   injection this with this
   omega
  ·have:=posO_not hm
   omega
theorem cut_led (ho:IsOrd S o) (hi:i<o.length) (c:Nat):cutP (ledF o φ) i c=ledF o (cutP φ (o[i]).toNat c):=by
 funext p
 show φ (ledP o (upd p i c))=φ (upd (ledP o p) (o[i]).toNat c)
 rw[led_set ho hi]
theorem hang_new (ho:IsOrd S o) (hg:Hang S φ 0):∀i,i≤o.length→(∀k (h:k<o.length),k<i→¬Asks S φ (o[k]).toNat)→Hang (ledS S o) (ledF o φ) i:=by
 intro i
 induction i with
 |zero=>
  intro _ _ p q hp hq hj
  refine hg _ _ (led_pnt ho hp) (led_pnt ho hq) (fun j _ hjS=>?_)
  unfold ledP
  exact hj _ (Nat.zero_le _) (by rw[ledS_length ho,←ho.len];exact posO_lt (ho.mem hjS))
 |succ i ih=>
  intro hi hna p q hp hq hj
  have hi':i<o.length:=by omega
  have h1:=ih (by omega) (fun k hk hki=>hna k hk (by omega))
  have hlt:i<(ledS S o).length:=by rw[ledS_length ho,←ho.len];exact hi'
  have hqi:((q i:Nat):Int)<(ledS S o).getD i 0:=hq i hlt
  rw[←h1 (upd p i (q i)) q (hp.upd hqi) hq (fun j h2 h3=>by
   by_cases e:j=i
   ·subst e;rw[upd_at]
   ·rw[upd_ne _ _ e];exact hj j (by omega) h3)]
  show φ (ledP o p)=φ (ledP o (upd p i (q i)))
  rw[led_set ho hi']
  have hc:((q i:Nat):Int)<S.getD (o[i]).toNat 0:=by
   rw[ledS_at (List.getElem?_eq_getElem hi')] at hqi
   exact hqi
  by_cases e:φ (upd (ledP o p) (o[i]).toNat (q i))=φ (ledP o p)
  ·exact e.symm
  ·exact absurd ⟨_,_,led_pnt ho hp,hc,e⟩ (hna i hi' (by omega))
theorem asks_new (ho:IsOrd S o) (hg:Hang S φ 0) (hi:i<o.length) (ha:Asks S φ (o[i]).toNat):Asks (ledS S o) (ledF o φ) i:=by
 obtain⟨p,c,hp,hc,hne⟩:=ha
 have hP:Pnt (ledS S o) (fun k=>p ((o.getD k 0).toNat)):=fun k hk=>by
  rw[ledS_length ho,←ho.len] at hk
  have hr:=ho.rng _ (List.getElem_mem hk)
  rw[ledS_at (List.getElem?_eq_getElem hk)]
  show((p ((o.getD k 0).toNat):Nat):Int)<_
  rw[List.getD_eq_getElem?_getD,List.getElem?_eq_getElem hk]
  exact hp _ (by show(o[k]).toNat<_;omega)
 have hc':(c:Int)<(ledS S o).getD i 0:=by rw[ledS_at (List.getElem?_eq_getElem hi)];exact hc
 have same:∀k,k<S.length→ledP o (fun k=>p ((o.getD k 0).toNat)) k=p k:=fun k hk=>by
  have hm:=ho.mem hk
  unfold ledP
  show p ((o.getD (posO o (k:Int)) 0).toNat)=p k
  rw[List.getD_eq_getElem?_getD,posO_get hm]
  simp
 refine⟨_,c,hP,hc',fun e=>hne ?_⟩
 have e':φ (ledP o (upd (fun k=>p ((o.getD k 0).toNat)) i c))=φ (ledP o (fun k=>p ((o.getD k 0).toNat))):=e
 rw[led_set ho hi] at e'
 rw[←hg _ p (led_pnt ho hP) hp (fun j _ hj=>same j hj),←e']
 refine hg _ _ (hp.upd hc) ((led_pnt ho hP).upd hc) (fun j _ hj=>?_)
 by_cases x:j=(o[i]).toNat
 ·subst x;rw[upd_at,upd_at]
 ·rw[upd_ne _ _ x,upd_ne _ _ x,same j hj]
end
end Go.Proofs.Ytnddhkhmbjeefaa

