/-
  The document's table and what levels are asked, in pure words; row and equal by their contracts. Condition: lists that a machine can hold.
-/
import Derived.WalkSmall
import Derived.Test.YtnddhkhmbjeefaaB40
import Derived.Test.YtnddhkhmbjeefaaB02
import Derived.Test.YtnddhkhmbjeefaaB04
import Derived.Test.YtnddhkhmbjeefaaB35
import Derived.Test.YtnddhkhmbjeefaaB03
namespace Go.Proofs.Ytnddhkhmbjeefaa
open Go.RowKit Go.Lib Go.Maps
abbrev MB:Int:=4398046511104
def hrN (lv:Int) (ks:List Int):Int:=ks.foldl (fun n k=>(n*31+k)%1000000007) lv
def hrF (lv:Int) (ks:List Int):Int:=(hrN lv ks)%16384
theorem getD_left {α:Type} {X T:List α} {d:α} {i:Nat} (h:i<X.length):(X++T).getD i d=X.getD i d:=by rw[List.getD_eq_getElem?_getD,List.getD_eq_getElem?_getD,List.getElem?_append_left h]
theorem getD_snoc {α:Type} {X:List α} {x d:α} {i:Nat} (h:i=X.length):(X++[x]).getD i d=x:=by subst h;simp[List.getD_eq_getElem?_getD]
theorem getD_here {α:Type} {X:List α} {x d:α} {i:Nat} (h:i<X.length):(X.set i x).getD i d=x:=by rw[List.getD_eq_getElem?_getD,List.getElem?_set_self h];rfl
theorem getD_else {α:Type} {X:List α} {x d:α} {i j:Nat} (h:i≠j):(X.set i x).getD j d=X.getD j d:=by rw[List.getD_eq_getElem?_getD,List.getElem?_set_ne h,←List.getD_eq_getElem?_getD]
theorem hrF_rng (lv:Int) (ks:List Int):0≤hrF lv ks∧hrF lv ks<16384:=by unfold hrF;omega
def Chn (X:List Int):Int→List Int→Prop
 |h,[]=>h= -1
 |h,k::C=>h=k∧2≤k∧X.getD k.toNat 0<k∧Chn X (X.getD k.toNat 0) C
structure HashOk (D:List Nd) (H X:List Int):Prop where
 hl:H.length=16384
 xl:X.length=D.length+2
 at':∀r:Nat,r<16384→∃C,Chn X (H.getD r 0) C∧∀k:Int,k∈C↔2≤k∧k<(D.length:Int)+2∧hrF (D.getD (k-2).toNat (0,[])).1 (D.getD (k-2).toNat (0,[])).2=(r:Int)
structure AskOk (S:List Int) (D:List Nd) (A:List Int):Prop where
 al:A.length=D.length+2
 at':∀f:Nat,f<D.length+2→∃m:Nat,A.getD f 0=(m:Int)∧m<4096∧∀l,m.testBit l=true↔Dpd S D (f:Int) l
section
variable {S:List Int} {D:List Nd} {H X A:List Int} {lv:Int} {ks:List Int} {w:World}
theorem chn_app:∀ {C:List Int} {h:Int} {T:List Int},Chn X h C→(∀k∈C,k<(X.length:Int))→Chn (X++T) h C
 |[],_,_,e,_=>e
 |k::C,h,T,⟨e,h2,h3,h4⟩,hk=>by
  have hx:(X++T).getD k.toNat 0=X.getD k.toNat 0:=by
   have:=hk k (by simp)
   exact getD_left (by omega)
  exact⟨e,h2,by rw[hx];exact h3,by rw[hx];exact chn_app h4 (fun x hx=>hk x (by simp[hx]))⟩
theorem chn_low:∀ {C:List Int} {h:Int},Chn X h C→h= -1∨(2≤h∧h∈C)
 |[],_,e=>.inl e
 |k::C,h,⟨e,h2,_⟩=>.inr ⟨by rw[e];exact h2,by rw[e];simp⟩
theorem HashOk.nil (hl:H=List.replicate 16384 (-1)):HashOk [] H [-1,-1]:=⟨by rw[hl,List.length_replicate],rfl,fun r hr=>⟨[],by
 rw[hl,List.getD_eq_getElem?_getD,List.getElem?_replicate,if_pos hr]
 rfl,fun k=>⟨fun h=>by simp at h,fun h=>by simp at h;omega⟩⟩⟩
theorem HashOk.add (h:HashOk D H X) {r:Nat} (hr:r<16384) (e:hrF lv ks=(r:Int)):HashOk (D++[(lv,ks)]) (H.set r ((D.length:Int)+2)) (X++[H.getD r 0]):=by
 refine⟨by rw[List.length_set,h.hl],by rw[List.length_append,List.length_append,h.xl];simp,fun q hq=>?_⟩
 obtain⟨C,c1,c2⟩:=h.at' q hq
 have hX:∀k∈C,k<(X.length:Int):=fun k hk=>by have:=((c2 k).1 hk).2.1;rw[h.xl];omega
 have hold:∀k:Int,2≤k→k<(D.length:Int)+2→(D++[(lv,ks)]).getD (k-2).toNat (0,[])=D.getD (k-2).toNat (0,[]):=fun k h1 h2=>by
  exact getD_left (by omega)
 have hnew:(D++[(lv,ks)]).getD (((D.length:Int)+2)-2).toNat (0,[])=(lv,ks):=by
  exact getD_snoc (by omega)
 by_cases hqr:q=r
 ·subst hqr
  refine⟨((D.length:Int)+2)::C,⟨?_,by omega,?_,?_⟩,fun k=>?_⟩
  ·exact getD_here (by rw[h.hl];exact hq)
  ·rw[getD_snoc (by rw[h.xl];omega)]
   rcases chn_low c1 with e1|⟨_,e1⟩
   ·rw[e1];omega
   ·have:=((c2 _).1 e1).2.1
    exact this
  ·rw[getD_snoc (by rw[h.xl];omega)]
   exact chn_app c1 hX
  ·rw[List.mem_cons,c2]
   constructor
   ·rintro(rfl|⟨h1,h2,h3⟩)
    ·exact⟨by omega,by rw[List.length_append];simp;omega,by rw[hnew];exact e⟩
    ·exact⟨h1,by rw[List.length_append];simp;omega,by rw[hold k h1 h2];exact h3⟩
   ·rintro⟨h1,h2,h3⟩
    by_cases hk:k=(D.length:Int)+2
    ·exact .inl hk
    ·have h2':k<(D.length:Int)+2:=by rw[List.length_append] at h2;simp at h2;omega
     exact .inr ⟨h1,h2',by rw[hold k h1 h2'] at h3;exact h3⟩
 ·refine⟨C,?_,fun k=>?_⟩
  ·rw[getD_else (fun x=>hqr x.symm)]
   exact chn_app c1 hX
  ·rw[c2]
   constructor
   ·rintro⟨h1,h2,h3⟩
    exact⟨h1,by rw[List.length_append];simp;omega,by rw[hold k h1 h2];exact h3⟩
   ·rintro⟨h1,h2,h3⟩
    by_cases hk:k=(D.length:Int)+2
    ·subst hk
     rw[hnew,e] at h3
     omega
    ·have h2':k<(D.length:Int)+2:=by rw[List.length_append] at h2;simp at h2;omega
     exact⟨h1,h2',by rw[hold k h1 h2'] at h3;exact h3⟩
theorem AskOk.nil:AskOk S [] [0,0]:=⟨rfl,fun f hf=>⟨0,by
 have:f=0∨f=1:=by simp at hf;omega
 rcases this with rfl|rfl<;>rfl,by decide,fun l=>⟨fun h=>by simp at h,fun h=>absurd h (dep_low (by simp at hf;omega))⟩⟩⟩
theorem AskOk.add (h:AskOk S D A) (hD:Ok S MB D) (hE:Ok S MB (D++[(lv,ks)])) {l0:Nat} (e:lv=(l0:Int)) {m:Nat} (hm:m<4096) (hb:∀l,m.testBit l=true↔l=l0∨∃c,c<ks.length∧Dpd S D (ks.getD c 0) l) (hk:∀c,c<ks.length→hasR D (ks.getD c 0)):AskOk S (D++[(lv,ks)]) (A++[(m:Int)]):=by
 refine⟨by rw[List.length_append,List.length_append,h.al];simp,fun f hf=>?_⟩
 by_cases hfn:f<D.length+2
 ·obtain⟨m',a1,a2,a3⟩:=h.at' f hfn
  refine⟨m',?_,a2,fun l=>(a3 l).trans (dep_app hD ⟨by omega,by omega⟩).symm⟩
  rw[getD_left (by rw[h.al];exact hfn)]
  exact a1
 ·have hfe:f=D.length+2:=by rw[List.length_append] at hf;simp at hf;omega
  subst hfe
  refine⟨m,?_,hm,fun l=>?_⟩
  ·exact getD_snoc h.al.symm
  ·have h2:(2:Int)≤((D.length+2:Nat):Int):=by omega
   have h3:((D.length+2:Nat):Int)<((D++[(lv,ks)]).length:Int)+2:=by rw[List.length_append];simp;omega
   obtain⟨l',ks',hn⟩:=hE.ndAt h2 h3
   have ha:=hn.at_
   rw[show(((D.length+2:Nat):Int)-2).toNat=D.length by omega,List.getElem?_append_right (Nat.le_refl _)] at ha
   simp at ha
   obtain⟨rfl,rfl⟩:=ha
   have:l'=l0:=by omega
   subst this
   rw[hb,dep_node hE h2 h3 hn]
   constructor
   ·rintro(e1|⟨c,hc,hd⟩)
    ·exact .inl e1
    ·exact .inr ⟨c,hc,(dep_app hD (hk c hc)).2 hd⟩
   ·rintro(e1|⟨c,hc,hd⟩)
    ·exact .inl e1
    ·exact .inr ⟨c,hc,(dep_app hD (hk c hc)).1 hd⟩
set_option maxRecDepth 100000 in
theorem row_any (ao:Option Addr) (cap:Nat) (ks:List Int) (lv:Int) (h0:0≤lv) (h1:lv≤1000) (hl:ks.length≤256) (hz:ZAt w ao ks) (hk:∀k∈ks,0≤k∧k≤8796093022208):
 Calls Try.prog 95 #[.int .i64 lv,.slice ao ks.length cap] w fun e w'=>e=.returned (.int .i64 (hrF lv ks))∧w'=w:=by
 have HZ:=hide hz
 have HK:=hide hk
 clear hz hk
 go_enter Try.func95,Try.ntmps95
 go_wp2
 go_loopw [5,6] (fun v5 v6 wr=>∃(i:Nat) (n:Int),v5=.int .i64 n∧v6=.int .i64 (i:Int)∧i≤ks.length∧Hid (n=hrN lv (ks.take i))∧0≤n∧n≤1000000007∧wr=w) (fun _ v _=>ks.length-(RowKit.intOf v).toNat)
 case atStart=>exact⟨0,lv,rfl,rfl,Nat.zero_le _,rfl,h0,by omega,rfl⟩
 case round=>
  obtain⟨i,n,rfl,rfl,hi,HN,hn0,hn1,rfl⟩:=hrel
  by_cases hlt:i<ks.length
  ·have hlt':(i:Int)<(ks.length:Int):=by omega
   obtain⟨b,off,rfl,hb,q1⟩:=HZ.out.get hlt
   obtain⟨k,hkk⟩:∃k,ks.getD i 0=k:=⟨_,rfl⟩
   rw[hkk] at q1
   have hgk:ks[i]=k:=by rw[←hkk,List.getD_eq_getElem?_getD,List.getElem?_eq_getElem hlt];rfl
   have hkr:0≤k∧k≤8796093022208:=by rw[←hgk];exact HK.out _ (List.getElem_mem _)
   have e1:IntKind.i64.wrap (n*31)=n*31:=by simp[IntKind.wrap,IntKind.bits,IntKind.signed];omega
   have e2:IntKind.i64.wrap (n*31+k)=n*31+k:=by simp[IntKind.wrap,IntKind.bits,IntKind.signed];omega
   have et:(n*31+k).tmod 1000000007=(n*31+k)%1000000007:=Int.tmod_eq_emod_of_nonneg (by omega)
   have e3:IntKind.i64.wrap ((n*31+k)%1000000007)=(n*31+k)%1000000007:=by simp[IntKind.wrap,IntKind.bits,IntKind.signed];omega
   have HN2:Hid ((n*31+k)%1000000007=hrN lv (ks.take (i+1))):=by
    unfold Hid
    rw[List.take_succ_eq_append_getElem hlt,hrN,List.foldl_append,hgk]
    show _=((hrN lv (ks.take i))*31+k)%1000000007
    rw[←HN.out]
   have hge:0≤(n*31+k)%1000000007:=by omega
   have hlt2:(n*31+k)%1000000007≤1000000007:=by omega
   clear hkk hgk
   go_wp2
   go_roundw
   case rel=>exact⟨i+1,_,rfl,by go_num,by omega,HN2,hge,hlt2,by first|exact rfl|exact trivial⟩
   case measure=>simp[RowKit.intOf];omega
  ·have hlt':¬(i:Int)<(ks.length:Int):=by omega
   have e:i=ks.length:=by omega
   have HF:Hid (n%16384=hrF lv ks):=by unfold Hid hrF;rw[HN.out,e,List.take_length]
   have et:n.tmod 16384=n%16384:=Int.tmod_eq_emod_of_nonneg hn0
   have e3:IntKind.i64.wrap (n%16384)=n%16384:=by simp[IntKind.wrap,IntKind.bits,IntKind.signed];omega
   clear e
   go_wp2
   go_ret
   exact⟨by rw[←HF.out];rfl,rfl⟩
end
def z4:List Value:=[.int .i64 0,.slice none 0 0,.int .i64 0,.slice none 0 0]
structure StX (w:World) (s:Nat) (R:List ND) (nv:Value) (V:Nat→Value) (L:Nat→List Int) (P M:Nat→Prop):Prop where
 blk:w.heap[s]? =some (.cells #[nv,V 1,V 2,V 3] 155 (0,0))
 nod:w.ownsRow 0 86 2 nv (R.length+2) (z4++ndC R)
 row:∀j,1≤j→j≤3→w.ownsRow 0 3 1 (V j) (L j).length (zC (L j))
 kid:∀y∈R,ZBk w y.kb y.ks
 apart:∀i j,1≤i→i≤3→1≤j→j≤3→i≠j→∀k,(V i).ownBlock=some k→¬(V j).ownBlock=some k
 ps:M s
 pn:∀k,nv.ownBlock=some k→M k
 pv:∀j,1≤j→j≤3→∀k,(V j).ownBlock=some k→M k
 nk:∀y∈R,¬M y.kb
 mp:∀k,M k→P k
 pk:∀y∈R,P y.kb
 plt:∀k,P k→k<w.heap.size
section
variable {w w' w2:World} {s:Nat} {R:List ND} {nv nv' v':Value} {V:Nat→Value} {L:Nat→List Int} {P M F:Nat→Prop} {l':List Int} {j:Nat}
theorem StX.kept (h:StX w s R nv V L P M) (hk:Kept F w w') (hF:∀k,P k→¬F k):StX w' s R nv V L P M:=
 ⟨(hk.block s (h.plt s (h.mp s h.ps)) (hF s (h.mp s h.ps))).trans h.blk,own_kept h.nod hk (fun k hb=>hF k (h.mp k (h.pn k hb))),fun j h1 h3=>own_kept (h.row j h1 h3) hk (fun k hb=>hF k (h.mp k (h.pv j h1 h3 k hb))),fun y hy=>(h.kid y hy).kept hk (hF _ (h.pk y hy)),h.apart,h.ps,h.pn,h.pv,h.nk,h.mp,h.pk,fun k hp=>Nat.lt_of_lt_of_le (h.plt k hp) hk.size⟩
theorem StX.below (h:StX w s R nv V L P M) (y:Below w.heap.size w w'):StX w' s R nv V L P M:=h.kept (F:=fun _=>False) (Kept.of_below y) (fun _ _ h=>h)
theorem StX.cells (h:StX w s R nv V L P M):w.cell? ⟨s,0,none⟩=some nv∧w.cell? ⟨s,1,none⟩=some (V 1)∧w.cell? ⟨s,2,none⟩=some (V 2)∧w.cell? ⟨s,3,none⟩=some (V 3):=by
 refine⟨?_,?_,?_,?_⟩<;>(rw[cell_of_row w s _ _ _ _ h.blk];rfl)
theorem StX.fix (h:StX w s R nv V L P M) (h1:1≤j) (h3:j≤3) {k:Nat} (hk:(V j).ownBlock=some k) {y:ND} (hy:y∈R):k≠y.kb:=fun e=>h.nk y hy (by rw[←e];exact h.pv j h1 h3 k hk)
theorem StX.mlt (h:StX w s R nv V L P M) {k:Nat} (hk:M k):k<w.heap.size:=h.plt k (h.mp k hk)
theorem StX.setJ (h:StX w s R nv V L P M) (h1:1≤j) (h3:j≤3) (k2:Kept (fun k=>(V j).ownBlock=some k) w w2) (hr:w2.ownsRow 0 3 1 v' l'.length (zC l')) (hn:∀k,v'.ownBlock=some k→(V j).ownBlock=some k∨w.heap.size≤k):
 StX (w2.setCell ⟨s,j,none⟩ v') s R nv (fun i=>if i=j then v' else V i) (fun i=>if i=j then l' else L i) (fun k=>P k∨v'.ownBlock=some k) (fun k=>M k∨v'.ownBlock=some k)∧Kept (fun k=>(V j).ownBlock=some k∨k=s) w (w2.setCell ⟨s,j,none⟩ v'):=by
 have k3:Kept (fun k=>k=s) w2 (w2.setCell ⟨s,j,none⟩ v'):=Kept.setCell (F:=fun k=>k=s) (p:=⟨s,j,none⟩) (Kept.refl _ _) rfl _
 have hns:¬(V j).ownBlock=some s:=fun hF=>by
  obtain⟨cs,h5⟩:=own_ty (h.row j h1 h3) _ hF
  exact blocks_ne h.blk h5 (by decide) rfl
 have hb2:=(k2.block s (lt_of_block h.blk) hns).trans h.blk
 have kk:Kept (fun k=>(V j).ownBlock=some k∨k=s) w (w2.setCell ⟨s,j,none⟩ v'):=(k2.mono (fun _ h=>.inl h)).trans (k3.mono (fun _ h=>.inr h))
 have hns':¬v'.ownBlock=some s:=fun hF=>by
  rcases hn s hF with h5|h5
  ·exact hns h5
  ·have:=lt_of_block h.blk;omega
 have oth:∀i,1≤i→i≤3→i≠j→∀k,(V i).ownBlock=some k→¬((V j).ownBlock=some k∨k=s):=fun i i1 i3 hij k hk hF=>by
  rcases hF with hF|hF
  ·exact h.apart i j i1 i3 h1 h3 hij k hk hF
  ·obtain⟨cs,h5⟩:=own_ty (h.row i i1 i3) _ hk
   exact blocks_ne h.blk h5 (by decide) hF.symm
 have new:∀k,P k→k≠s→¬(V j).ownBlock=some k→¬v'.ownBlock=some k:=fun k hp hks hv hF=>by
  rcases hn k hF with h5|h5
  ·exact hv h5
  ·have:=h.plt k hp;omega
 refine⟨⟨?_,own_kept h.nod kk (fun k hk hF=>?_),fun i i1 i3=>?_,fun y hy=>(h.kid y hy).kept kk (fun hF=>?_),fun a b a1 a3 b1 b3 hab k ha hb=>?_,.inl h.ps,fun k hk=>.inl (h.pn k hk),fun i i1 i3 k hk=>?_,fun y hy hF=>?_,fun k hk=>hk.imp (h.mp k) id,fun y hy=>.inl (h.pk y hy),fun k hp=>?_⟩,kk⟩
 ·rw[block_setCell hb2 j v']
  rcases (show j=1∨j=2∨j=3 by omega) with rfl|rfl|rfl<;>rfl
 ·obtain⟨cs,h5⟩:=own_ty h.nod _ hk
  rcases hF with hF|hF
  ·obtain⟨cs',h6⟩:=own_ty (h.row j h1 h3) _ hF
   exact blocks_ne h5 h6 (by decide) rfl
  ·exact blocks_ne h.blk h5 (by decide) hF.symm
 ·by_cases e:i=j
  ·simp only[if_pos e]
   exact own_kept hr k3 (fun k hk hF=>hns' (by rw[←hF];exact hk))
  ·simp only[if_neg e]
   exact own_kept (h.row i i1 i3) kk (oth i i1 i3 e)
 ·rcases hF with hF|hF
  ·exact h.fix h1 h3 hF hy rfl
  ·exact(h.kid y hy).ne h.blk (by decide) hF
 ·by_cases e:a=j
  ·rw[if_pos e] at ha
   rw[if_neg (fun e2=>hab (e.trans e2.symm))] at hb
   have e2:b≠j:=fun e2=>hab (e.trans e2.symm)
   exact new k (h.mp k (h.pv b b1 b3 k hb)) (fun hF=>oth b b1 b3 e2 k hb (.inr hF)) (fun hF=>oth b b1 b3 e2 k hb (.inl hF)) ha
  ·rw[if_neg e] at ha
   by_cases e2:b=j
   ·rw[if_pos e2] at hb
    exact new k (h.mp k (h.pv a a1 a3 k ha)) (fun hF=>oth a a1 a3 e k ha (.inr hF)) (fun hF=>oth a a1 a3 e k ha (.inl hF)) hb
   ·rw[if_neg e2] at hb
    exact h.apart a b a1 a3 b1 b3 hab k ha hb
 ·by_cases e:i=j
  ·rw[if_pos e] at hk
   exact .inr hk
  ·rw[if_neg e] at hk
   exact .inl (h.pv i i1 i3 k hk)
 ·rcases hF with hF|hF
  ·exact h.nk y hy hF
  ·exact new _ (h.pk y hy) (fun hF=>(h.kid y hy).ne h.blk (by decide) hF) (fun hF=>h.fix h1 h3 hF hy rfl) hF
 ·rcases hp with hp|hp
  ·exact Nat.lt_of_lt_of_le (h.plt k hp) kk.size
  ·exact Nat.lt_of_lt_of_le (World.ownsRow.lt hr k hp).2 k3.size
theorem StX.putJ (h:StX w s R nv V L P M) (h1:1≤j) (h3:j≤3) {g n c:Nat} (hv:V j=.slice (some ⟨g,0,none⟩) n c) (hn:n=(L j).length) (i:Nat) (x:Int):
 StX (w.setCell ⟨g,i,none⟩ (.int .i64 x)) s R nv V (fun a=>if a=j then(L j).set i x else L a) P M∧Kept (fun k=>k=g) w (w.setCell ⟨g,i,none⟩ (.int .i64 x)):=by
 have k3:Kept (fun k=>k=g) w (w.setCell ⟨g,i,none⟩ (.int .i64 x)):=Kept.setCell (F:=fun k=>k=g) (p:=⟨g,i,none⟩) (Kept.refl _ _) rfl _
 have hr:=h.row j h1 h3
 have hg:(V j).ownBlock=some g:=by rw[hv];rfl
 obtain⟨cs,h5⟩:=own_ty hr _ hg
 refine⟨⟨(k3.block s (lt_of_block h.blk) (fun e=>blocks_ne h.blk h5 (by decide) e)).trans h.blk,own_kept h.nod k3 (fun k hk hF=>?_),fun a a1 a3=>?_,fun y hy=>(h.kid y hy).kept k3 (fun hF=>h.fix h1 h3 hg hy hF.symm),h.apart,h.ps,h.pn,h.pv,h.nk,h.mp,h.pk,fun k hp=>Nat.lt_of_lt_of_le (h.plt k hp) k3.size⟩,k3⟩
 ·obtain⟨cs',h6⟩:=own_ty h.nod _ hk
  exact blocks_ne h6 h5 (by decide) hF
 ·by_cases e:a=j
  ·subst e
   simp only[if_true]
   rw[hv,hn] at hr ⊢
   have:=(World.ownsRow.stored hr i (.int .i64 x)).1
   rw[List.length_set]
   rw[show zC ((L a).set i x)=(zC (L a)).set i (.int .i64 x) by simp[zC,List.map_set]]
   exact this
  ·simp only[if_neg e]
   exact own_kept (h.row a a1 a3) k3 (fun k hk hF=>h.apart a j a1 a3 h1 h3 e k hk (by rw[hF];exact hg))
theorem StX.addN (h:StX w s R nv V L P M) {y:ND} (hy:ZBk w y.kb y.ks) (hyp:¬P y.kb) {wa:World} (x:Below w.heap.size w wa) (k2:Kept (fun k=>nv.ownBlock=some k) wa w2) (hr:w2.ownsRow 0 86 2 nv' (R.length+3) (z4++ndC (R++[y]))) (hn:∀k,nv'.ownBlock=some k→nv.ownBlock=some k∨w.heap.size≤k):
 StX (w2.setCell ⟨s,0,none⟩ nv') s (R++[y]) nv' V L (fun k=>P k∨nv'.ownBlock=some k∨k=y.kb) (fun k=>M k∨nv'.ownBlock=some k)∧Kept (fun k=>nv.ownBlock=some k∨k=s) w (w2.setCell ⟨s,0,none⟩ nv'):=by
 have k2':Kept (fun k=>nv.ownBlock=some k) w w2:=(Kept.of_below x).trans_new k2 (fun _ _ h=>h)
 have k3:Kept (fun k=>k=s) w2 (w2.setCell ⟨s,0,none⟩ nv'):=Kept.setCell (F:=fun k=>k=s) (p:=⟨s,0,none⟩) (Kept.refl _ _) rfl _
 have hns:¬nv.ownBlock=some s:=fun hF=>by
  obtain⟨cs,h5⟩:=own_ty h.nod _ hF
  exact blocks_ne h.blk h5 (by decide) rfl
 have hb2:=(k2'.block s (lt_of_block h.blk) hns).trans h.blk
 have kk:Kept (fun k=>nv.ownBlock=some k∨k=s) w (w2.setCell ⟨s,0,none⟩ nv'):=(k2'.mono (fun _ h=>.inl h)).trans (k3.mono (fun _ h=>.inr h))
 have hns':¬nv'.ownBlock=some s:=fun hF=>by
  rcases hn s hF with h5|h5
  ·exact hns h5
  ·have:=lt_of_block h.blk;omega
 have nt:∀ {b:Nat} {cs:Array Value} {f:Nat×Nat},w.heap[b]? =some (.cells cs 3 f)→¬(nv.ownBlock=some b∨b=s):=fun hb hF=>by
  rcases hF with hF|hF
  ·obtain⟨cs,h5⟩:=own_ty h.nod _ hF
   exact blocks_ne hb h5 (by decide) rfl
  ·exact blocks_ne hb h.blk (by decide) hF
 have zk:∀ {b:Nat} {A:List Int},ZBk w b A→ZBk (w2.setCell ⟨s,0,none⟩ nv') b A:=fun hz=>by
  obtain⟨cs,h5⟩:=hz.ty
  exact hz.kept kk (nt h5)
 refine⟨⟨?_,?_,fun j h1 h3=>own_kept (h.row j h1 h3) kk (fun k hk=>?_),fun z hz=>?_,h.apart,.inl h.ps,fun k hk=>.inr hk,fun j h1 h3 k hk=>.inl (h.pv j h1 h3 k hk),fun z hz hF=>?_,fun k hk=>hk.imp (h.mp k) .inl,fun z hz=>?_,fun k hp=>?_⟩,kk⟩
 ·rw[block_setCell hb2 0 nv']
  rfl
 ·rw[List.length_append,List.length_singleton]
  exact own_kept hr k3 (fun k hk hF=>hns' (by rw[←hF];exact hk))
 ·obtain⟨cs,h5⟩:=own_ty (h.row j h1 h3) _ hk
  exact nt h5
 ·rcases List.mem_append.1 hz with hz|hz
  ·exact zk (h.kid z hz)
  ·rw[List.mem_singleton.1 hz];exact zk hy
 ·have hzP:z.kb<w.heap.size∧¬M z.kb:=by
   rcases List.mem_append.1 hz with hz|hz
   ·exact⟨(h.kid z hz).lt,h.nk z hz⟩
   ·rw[List.mem_singleton.1 hz]
    exact⟨hy.lt,fun e=>hyp (h.mp _ e)⟩
  rcases hF with hF|hF
  ·exact hzP.2 hF
  ·rcases hn _ hF with h5|h5
   ·exact hzP.2 (h.pn _ h5)
   ·omega
 ·rcases List.mem_append.1 hz with hz|hz
  ·exact .inl (h.pk z hz)
  ·rw[List.mem_singleton.1 hz];exact .inr (.inr rfl)
 ·rcases hp with hp|hp|hp
  ·exact Nat.lt_of_lt_of_le (h.plt k hp) kk.size
  ·exact Nat.lt_of_lt_of_le (World.ownsRow.lt hr k hp).2 k3.size
  ·rw[hp];exact Nat.lt_of_lt_of_le hy.lt kk.size
end
def St (w:World) (s:Nat) (S:List Int) (D:List Nd) (P M:Nat→Prop):Prop:=∃R nv V L,StX w s R nv V L P M∧R.map ND.nd=D∧Ok S MB D∧AskOk S D (L 1)∧HashOk D (L 2) (L 3)
section
variable {w w':World} {s:Nat} {S:List Int} {D:List Nd} {P M F:Nat→Prop}
theorem St.kept (h:St w s S D P M) (hk:Kept F w w') (hF:∀k,P k→¬F k):St w' s S D P M:=by
 obtain⟨R,nv,V,L,h1,h2⟩:=h
 exact⟨R,nv,V,L,h1.kept hk hF,h2⟩
theorem St.below (h:St w s S D P M) (y:Below w.heap.size w w'):St w' s S D P M:=h.kept (F:=fun _=>False) (Kept.of_below y) (fun _ _ h=>h)
theorem St.ok (h:St w s S D P M):Ok S MB D:=by
 obtain⟨R,nv,V,L,_,_,h3,_⟩:=h
 exact h3
theorem St.plt (h:St w s S D P M) {k:Nat} (hk:P k):k<w.heap.size:=by
 obtain⟨R,nv,V,L,h1,_⟩:=h
 exact h1.plt k hk
theorem St.mp (h:St w s S D P M) {k:Nat} (hk:M k):P k:=by
 obtain⟨R,nv,V,L,h1,_⟩:=h
 exact h1.mp k hk
end
end Go.Proofs.Ytnddhkhmbjeefaa

