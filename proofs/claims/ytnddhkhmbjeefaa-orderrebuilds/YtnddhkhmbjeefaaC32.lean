/-
  Diagrams in their own order, and led back. In pure words; of no program: no condition.
-/
import Derived.Test.YtnddhkhmbjeefaaC18
import Derived.Test.YtnddhkhmbjeefaaC21
import Derived.Test.YtnddhkhmbjeefaaC17
import Derived.Deep.DeepCutAuto
import Derived.Deep.CutBlock
import Derived.Test.YtnddhkhmbjeefaaC24
import Derived.Test.YtnddhkhmbjeefaaC08
import Derived.Test.YtnddhkhmbjeefaaC29
import Derived.Test.YtnddhkhmbjeefaaC31
import Derived.Maps.AppendAt
import Derived.Test.YtnddhkhmbjeefaaC26
namespace Go.Proofs.Ytnddhkhmbjeefaa
open Go.RowKit
section
variable {S:List Int} {M:Int} {N:List Nd} {F:List Phi} {R:List Int} {L:List Lay} {o:List Int} {n:Nat}
theorem lows_get {i:Nat} (h:i<n):(lows n)[i]? =some (i:Int):=by simp[lows,h]
theorem lows_nodup:(lows n).Nodup:=by
 refine List.pairwise_iff_getElem.2 (fun i j hi hj hij e=>?_)
 simp[lows] at e
 omega
theorem lows_ord (S:List Int):IsOrd S (lows S.length):=⟨lows_nodup,by simp[lows],fun l hl=>lows_mem.1 hl⟩
theorem posO_lows {j:Nat} (h:j<n):posO (lows n) (j:Int)=j:=posO_nodup lows_nodup (lows_get h)
theorem ledS_lows:ledS S (lows S.length)=S:=by
 apply List.ext_getElem
 ·simp[ledS,lows]
 ·intro i h1 h2
  simp[ledS,lows,List.getD_eq_getElem?_getD,List.getElem?_eq_getElem h2]
theorem say_eq (h:Ok S M N) {f:Int} (hf:hasR N f) {p p':Nat→Nat} (hp:Pnt S p) (hp':Pnt S p') (e:∀j,j<S.length→p j=p' j):sayR N p f=sayR N p' f:=say_hang h f.toNat f (Nat.le_refl _) hf 0 (h.lvl_le hf).1 p p' hp hp' (fun j _ hj=>e j hj)
theorem led_low (h:Ok S M N) {f:Int} (hf:hasR N f):Rep (ledS S (lows S.length)) N (ledF (lows S.length) (fun p=>sayR N p f)) f:=by
 rw[ledS_lows]
 refine⟨hf,fun p hp=>?_⟩
 have hp2:Pnt (ledS S (lows S.length)) p:=by rw[ledS_lows];exact hp
 exact say_eq h hf hp (led_pnt (lows_ord S) hp2) (fun j hj=>by
  show p j=p (posO (lows S.length) (j:Int))
  rw[posO_lows hj])
theorem low_room (h:Ok S M N) {rs:List Int} (hrs:∀f∈rs,hasR N f) (G:GD S (rs.map fun f p=>sayR N p f) R L) {M2:Int} (h0:M≤M2) (h8:M2≤8192):(foldF S M2 (rs.map fun f p=>sayR N p f) (lows S.length)).2.1=0:=by
 obtain⟨L',G',e⟩:=order_ex h.sz (lows_ord S) G
 have hm0:=h.m0
 have hO:Ok (ledS S (L'.map (·.1))) M N:=by rw[e,ledS_lows];exact h
 have hle:=all_le h.sz G' hO (fun φ hφ=>by
  obtain⟨f,hf,rfl⟩:=List.mem_map.1 hφ
  rw[e]
  exact⟨f,led_low h (hrs f hf)⟩)
 have hfew:=h.few
 have:=fold_nodes h.sz G' (M:=M2) (by omega) h8
 rw[e] at this
 rcases this with⟨h1,_⟩|⟨_,h2⟩
 ·exact h1
 ·omega
structure BackO (o b:List Int):Prop where
 len:b.length=o.length
 at':∀i (h:i<o.length),b[(o[i]).toNat]? =some (i:Int)
theorem BackO.pos {b:List Int} (ho:IsOrd S o) (hb:BackO o b) {j:Nat} (hj:j<S.length):b[j]? =some (posO o (j:Int):Int):=by
 have hm:=ho.mem hj
 have h1:=posO_lt hm
 have h2:=posO_get hm
 rw[List.getElem?_eq_getElem h1] at h2
 have:=hb.at' _ h1
 rw[Option.some.inj h2,Int.toNat_natCast] at this
 exact this
theorem BackO.ord {b:List Int} (ho:IsOrd S o) (hb:BackO o b):IsOrd (ledS S o) b:=by
 have hl:b.length=S.length:=hb.len.trans ho.len
 have hg:∀j (h:j<b.length),b[j]=(posO o (j:Int):Int):=fun j h=>by
  have:=hb.pos ho (j:=j) (by omega)
  rw[List.getElem?_eq_getElem h] at this
  exact Option.some.inj this
 refine⟨List.pairwise_iff_getElem.2 (fun i j hi hj hij e=>?_),by rw[ledS_length ho];exact hl,fun l hm=>?_⟩
 ·rw[hg i hi,hg j hj] at e
  have hmi:=posO_get (ho.mem (j:=i) (by omega))
  have hmj:=posO_get (ho.mem (j:=j) (by omega))
  have e':posO o (i:Int)=posO o (j:Int):=by omega
  rw[e',hmj] at hmi
  have:=Option.some.inj hmi
  omega
 ·obtain⟨j,hj,rfl⟩:=List.getElem_of_mem hm
  rw[hg j hj,ledS_length ho]
  have h1:=posO_lt (ho.mem (j:=j) (by omega))
  have h2:=ho.len
  omega
theorem BackO.sizes {b:List Int} (ho:IsOrd S o) (hb:BackO o b):ledS (ledS S o) b=S:=by
 have hl:b.length=S.length:=hb.len.trans ho.len
 apply List.ext_getElem
 ·simp[ledS,hl]
 ·intro j h1 h2
  have hj:j<b.length:=by rw[hl];exact h2
  have e:=hb.pos ho h2
  rw[List.getElem?_eq_getElem hj] at e
  have e1:=Option.some.inj e
  have hm:=posO_get (ho.mem (j:=j) h2)
  simp only[ledS,List.getElem_map,e1]
  show((o.map (szL S)).getD ((posO o (j:Int):Int)).toNat 0)=S[j]
  rw[Int.toNat_natCast,List.getD_eq_getElem?_getD,List.getElem?_map,hm]
  simp[szL,List.getD_eq_getElem?_getD,List.getElem?_eq_getElem h2]
theorem BackO.led {b:List Int} (ho:IsOrd S o) (hb:BackO o b) {p:Nat→Nat} {j:Nat} (hj:j<S.length):ledP o (ledP b p) j=p j:=by
 show p (posO b ((posO o (j:Int):Nat):Int))=p j
 rw[posO_nodup (hb.ord ho).nod (hb.pos ho hj)]
theorem led_turn (h:Ok S M N) (ho:IsOrd S o) {b:List Int} (hb:BackO o b) {rs:List Int} (hrs:∀f∈rs,hasR N f) (G:GD S (rs.map fun f p=>sayR N p f) R L) {M1 M2:Int} (h0:0≤M1) (h8:M1≤8192) (h02:0≤M2) (h82:M2≤8192) (he:(foldF S M1 (rs.map fun f p=>sayR N p f) o).2.1=0):
 foldF (ledS S o) M2 ((foldF S M1 (rs.map fun f p=>sayR N p f) o).1.map fun f p=>sayR (foldF S M1 (rs.map fun f p=>sayR N p f) o).2.2 p f) b=foldF S M2 (rs.map fun f p=>sayR N p f) (lows S.length):=by
 obtain⟨L',G',e⟩:=order_ex h.sz ho G
 have oo:=fold_out h.sz G' (M:=M1) h0 h8
 rw[e] at oo
 obtain⟨_,k1,k2⟩:=oo.res.resolve_right (fun hh=>by have:=hh.1;omega)
 have hNo:=oo.ok
 generalize foldF S M1 (rs.map fun f p=>sayR N p f) o=z at *
 rw[List.length_map,List.length_map] at k1
 have hB:=hb.ord ho
 have hOn:Ok S M2 []:=Ok.nil h.sz h02 h82
 unfold foldF
 rw[hb.sizes ho,ledS_lows]
 refine kids_congr _ _ [] hOn (by simp[k1]) (fun i h1 h2 N' hN'=>?_)
 have hi:i<rs.length:=by simpa [k1] using h1
 have hiz:i<z.1.length:=by rw[k1];exact hi
 simp only[List.getElem_map]
 have rep:=(k2 i (by simpa using hi)).1
 simp only[List.getElem_map] at rep
 have hzi:z.1.getD i 0=z.1[i]:=by rw[List.getD_eq_getElem?_getD,List.getElem?_eq_getElem hiz];rfl
 rw[hzi] at rep
 have hf:=hrs _ (List.getElem_mem hi)
 have hal:Alike S (ledF b (fun p=>sayR z.2.2 p z.1[i])) (ledF (lows S.length) (fun p=>sayR N p rs[i])):=fun p hp=>by
  have hp1:Pnt (ledS (ledS S o) b) p:=by rw[hb.sizes ho];exact hp
  have hp2:=led_pnt hB hp1
  have hp3:=led_pnt ho hp2
  have hp4:Pnt (ledS S (lows S.length)) p:=by rw[ledS_lows];exact hp
  have h3:=rep.2 _ hp2
  show sayR z.2.2 (ledP b p) z.1[i]=sayR N (ledP (lows S.length) p) rs[i]
  rw[h3]
  show sayR N (ledP o (ledP b p)) rs[i]=_
  exact say_eq h hf hp3 (led_pnt (lows_ord S) hp4) (fun j hj=>by
   rw[hb.led ho hj]
   show p j=p (posO (lows S.length) (j:Int))
   rw[posO_lows hj])
 have hg:Hang S (ledF (lows S.length) (fun p=>sayR N p rs[i])) 0:=by
  have:=led_low h hf
  rw[ledS_lows] at this
  exact(say_hang h _ _ (Nat.le_refl _) hf 0 (h.lvl_le hf).1).alike this.2
 have hg':=hg.alike hal.symm
 exact⟨ins_alike hN' hg' hal,(ins_out hN' (Nat.zero_le _) hg').ok⟩
end
end Go.Proofs.Ytnddhkhmbjeefaa
namespace Go.Proofs.Ytnddhkhmbjeefaa
open Go.RowKit Go.Lib Go.Maps
theorem zat_new (w:World) (L:List Int):ZAt (w.alloc (.cells (zC L).toArray 3)) (some ⟨w.heap.size,0,none⟩) L:=by
 refine .inr ⟨w.heap.size,0,rfl,by simp,fun i hi=>?_⟩
 rw[Nat.zero_add,cell_of_row _ _ i _ _ _ (heap_alloc_new w _),List.getElem?_toArray,zC_get L hi]
theorem CA.made {w:World} {a:Nat} {S:List Int} {M:Int} {N N':List Nd} {m:Nat} {P:Nat→Prop} (h:CA w a S M N m P) {lv f er:Int} {A:List Int} (g c:Nat) (hk:MkP S M N lv A f er N') (hl:A.length≤140737488351232) (hz:ZAt w (some ⟨g,0,none⟩) A) (hm:m≤1000) {w0:World} (hb:Below w0.heap.size w0 w) (hp:∀k,P k→w0.heap.size≤k):
 Calls Try.prog 22 #[.pointer (some ⟨a,0,none⟩),.int .i64 lv,.slice (some ⟨g,0,none⟩) A.length c] w fun e w'=>e=.returned (.tuple #[.int .i64 f,.int .i64 er])∧∃P',CA w' a S M N' (m+1) P'∧Below w0.heap.size w0 w'∧∀k,P' k→w0.heap.size≤k:=by
 refine(h.make lv _ c A hl hz (by omega)).mono ?_
 rintro e w' ⟨f2,er2,N2,rfl,h2,P',h3,h4,h5,_⟩
 obtain⟨rfl,rfl,rfl⟩:=MkP.one h.ok.nod h2 hk
 exact⟨rfl,P',h3,hb.trans (h4.below hb.size hp),fun k hk=>(h5 k hk).elim (hp k) (Nat.le_trans hb.size)⟩
def ptf (A:List Int):Nat→Nat:=fun i=>(A.getD i 0).toNat
section
variable {w:World} {a:Nat} {S:List Int} {M:Int} {N:List Nd} {m:Nat} {P:Nat→Prop} {f:Int}
end
section
variable {S:List Int} {F:List Phi} {R:List Int} {L:List Lay} {o:List Int} {M:Int}
theorem fold_err (hS:SzOk S) (ho:IsOrd S o) (G:GD S F R L) (h0:0≤M) (h1:M≤8192):(foldF S M F o).2.1=0∨(foldF S M F o).2.1=2:=by
 obtain⟨L',G',rfl⟩:=order_ex hS ho G
 rcases fold_nodes hS G' h0 h1 with⟨e,_⟩|⟨e,_⟩
 ·exact .inl e
 ·exact .inr e
structure NwP (o old:List Int) (k:Nat) (Q:List Int):Prop where
 len:Q.length=o.length
 at':∀i (h:i<o.length),i<k→Q.getD i 0=old.getD (o[i]).toNat 0
variable {old Q:List Int} {k:Nat}
theorem NwP.start:NwP o old 0 (List.replicate o.length 0):=⟨by simp,fun i _ h=>by omega⟩
theorem NwP.step (h:NwP o old k Q) (hk:k<o.length):NwP o old (k+1) (Q.set k (old.getD (o[k]).toNat 0)):=by
 refine⟨by rw[List.length_set];exact h.len,fun i hi hik=>?_⟩
 by_cases e:i=k
 ·subst e
  rw[List.getD_eq_getElem?_getD,List.getElem?_set_self (by rw[h.len];omega)]
  rfl
 ·rw[List.getD_eq_getElem?_getD,List.getElem?_set_ne (fun x=>e x.symm),←List.getD_eq_getElem?_getD]
  exact h.at' i hi (by omega)
theorem NwP.pt (h:NwP o old o.length Q) (ho:IsOrd S o) (hp:PtL S old):PtL (ledS S o) Q∧∀i (hi:i<o.length),ptf Q i=ptf old (o[i]).toNat:=by
 refine⟨⟨by rw[h.len,ledS_length ho,ho.len],fun i hi=>?_⟩,fun i hi=>?_⟩
 ·have hi':i<o.length:=by rw[←h.len];exact hi
  have hr:=ho.rng _ (List.getElem_mem hi')
  have hw:(o[i]).toNat<old.length:=by rw[hp.len];omega
  have e:=hp.each _ hw
  rw[h.at' i hi' hi',ledS_at (lv:=o[i]) (List.getElem?_eq_getElem hi')]
  unfold szL
  exact e
 ·unfold ptf
  rw[h.at' i hi hi]
theorem PtL.zero (hS:SzOk S):PtL S (List.replicate S.length 0):=⟨by simp,fun i hi=>by
 have hi':i<S.length:=by simpa using hi
 have h1:=(hS.each _ (List.getElem_mem hi')).1
 rw[List.getD_eq_getElem?_getD,List.getD_eq_getElem?_getD,List.getElem?_replicate,if_pos hi',List.getElem?_eq_getElem hi']
 exact⟨Int.le_refl _,by show 0<S[i];omega⟩⟩
theorem PtL.set (h:PtL S Q) {c:Int} (h0:0≤c) (h1:c<S.getD k 0):PtL S (Q.set k c):=⟨by rw[List.length_set];exact h.len,fun i hi=>by
 rw[List.length_set] at hi
 by_cases e:i=k
 ·subst e
  rw[List.getD_eq_getElem?_getD,List.getElem?_set_self hi]
  exact⟨h0,h1⟩
 ·rw[List.getD_eq_getElem?_getD,List.getElem?_set_ne (fun x=>e x.symm),←List.getD_eq_getElem?_getD]
  exact h.each i hi⟩
end
structure QZ where
 pa:Option Addr
 pc:Nat
 L:List Int
structure QtOk (w:World) (x:QZ):Prop where
 fit:∀k∈x.L,Fit k
 at':ZAt w x.pa x.L
 len:x.L.length≤17592186043904
def QtAt (w:World) (so:Option Addr) (T:List QZ):Prop:=T=[]∨∃b off,so=some ⟨b,off,none⟩∧b<w.heap.size∧∀i (h:i<T.length),w.cell? ⟨b,off+i,none⟩=some (.slice T[i].pa T[i].L.length T[i].pc)∧QtOk w T[i]
theorem QtOk.below {w w':World} {x:QZ} (h:QtOk w x) (y:Below w.heap.size w w'):QtOk w' x:=⟨h.fit,h.at'.below y,h.len⟩
theorem QtAt.below {w w':World} {so:Option Addr} {T:List QZ} (h:QtAt w so T) (y:Below w.heap.size w w'):QtAt w' so T:=by
 rcases h with h|⟨b,off,e,hb,h⟩
 ·exact .inl h
 ·exact .inr ⟨b,off,e,Nat.lt_of_lt_of_le hb y.size,fun i hi=>⟨(y.cell (p:=⟨b,off+i,none⟩) hb).trans (h i hi).1,(h i hi).2.below y⟩⟩
theorem QtAt.get {w:World} {so:Option Addr} {T:List QZ} (h:QtAt w so T) {i:Nat} (hi:i<T.length):∃b off,so=some ⟨b,off,none⟩∧b<w.heap.size∧w.cell? ⟨b,off+i,none⟩=some (.slice T[i].pa T[i].L.length T[i].pc)∧QtOk w T[i]:=by
 rcases h with h|⟨b,off,e,hb,h⟩
 ·rw[h] at hi;simp at hi
 ·exact⟨b,off,e,hb,(h i hi).1,(h i hi).2⟩
end Go.Proofs.Ytnddhkhmbjeefaa
namespace Go.Proofs.Ytnddhkhmbjeefaa
open Go.RowKit
def mkC (M:Int) (N:List Nd) (lv:Int) (ks:List Int):Int×Int×List Nd:=
 if ks.all (fun f=>f==ks.getD 0 0) then(ks.getD 0 0,0,N)
 else if N.idxOf (lv,ks)<N.length then((N.idxOf (lv,ks):Int)+2,0,N)
 else if M≤(N.length:Int) then(0,2,N) else((N.length:Int)+2,0,N++[(lv,ks)])
def kidsC (step:List Nd→Phi→Int×Int×List Nd):List Nd→List Phi→List Int×Int×List Nd
 |N,[]=>([],0,N)
 |N,φ::t=>match step N φ with
  |(r,e,N1)=>if e=0 then(match kidsC step N1 t with|(rs,e2,N2)=>if e2=0 then(r::rs,0,N2) else([],e2,N2)) else([],e,N1)
def insC (S:List Int) (M:Int):Nat→List Nd→Phi→Int×Int×List Nd
 |0,N,φ=>(if φ (fun _=>0) then 1 else 0,0,N)
 |d+1,N,φ=>match kidsC (insC S M d) N (cuts S φ (S.length-(d+1))) with
  |(ks,e,N1)=>if e=0 then mkC M N1 ((S.length-(d+1):Nat):Int) ks else(0,e,N1)
def mayC (S:List Int) (N:List Nd) (lv:Int) (ks:List Int):Bool:=decide (0≤lv)&&decide (lv<(S.length:Int))&&decide ((ks.length:Int)=S.getD lv.toNat 0)&&ks.all (fun f=>decide (0≤f)&&decide (f<(N.length:Int)+2)&&decide (lv<lvl S N f))
section
variable {S:List Int} {M:Int} {N:List Nd} {φ ψ:Phi} {lv:Int} {ks:List Int}
theorem kidsC_eq (step:List Nd→Phi→Int×Int×List Nd):∀(fs:List Phi) (N:List Nd),kidsC step N fs=kidsF step N fs
 |[],_=>rfl
 |φ::t,N=>by
  have ih:=kidsC_eq step t (step N φ).2.2
  simp only[kidsC,kidsF,ih]
theorem all_one:ks.all (fun f=>f==ks.getD 0 0)=true↔One ks:=by simp[One]
theorem mkC_P (h:May S N lv ks):MkP S M N lv ks (mkC M N lv ks).1 (mkC M N lv ks).2.1 (mkC M N lv ks).2.2:=by
 unfold mkC
 by_cases h1:ks.all (fun f=>f==ks.getD 0 0)=true
 ·rw[if_pos h1]
  exact .inr (.inl ⟨h,all_one.1 h1,rfl,rfl,rfl⟩)
 ·have hn:¬One ks:=fun ho=>h1 (all_one.2 ho)
  rw[if_neg h1]
  by_cases h2:N.idxOf (lv,ks)<N.length
  ·rw[if_pos h2]
   exact .inr (.inr (.inl ⟨h,hn,⟨_,by rw[List.getElem?_eq_getElem h2,List.getElem_idxOf],rfl⟩,rfl,rfl⟩))
  ·have hm:(lv,ks)∉N:=fun hm=>h2 (List.idxOf_lt_length_of_mem hm)
   rw[if_neg h2]
   by_cases h3:M≤(N.length:Int)
   ·rw[if_pos h3]
    exact .inr (.inr (.inr (.inl ⟨h,hn,hm,h3,rfl,rfl,rfl⟩)))
   ·rw[if_neg h3]
    exact .inr (.inr (.inr (.inr ⟨h,hn,hm,by omega,rfl,rfl,rfl⟩)))
theorem mkC_eq (hn:N.Nodup) (h:May S N lv ks):mkF S M N lv ks=mkC M N lv ks:=mkF_of hn (mkC_P h)
theorem mayC_may (h:mayC S N lv ks=true):May S N lv ks:=by
 simp only[mayC,Bool.and_eq_true,decide_eq_true_eq,List.all_eq_true] at h
 exact⟨h.1.1.1,h.1.1.2,h.1.2,fun f hf=>⟨⟨(h.2 f hf).1.1,(h.2 f hf).1.2⟩,(h.2 f hf).2⟩⟩
theorem insC_eq:∀(d:Nat),d≤S.length→∀(N:List Nd),Ok S M N→∀φ,Hang S φ (S.length-d)→ins S M N φ=insC S M d N φ:=by
 intro d
 induction d with
 |zero=>
  intro _ N h φ hg
  have e:∀p,Pnt S p→φ p=φ (fun _=>0):=fun p hp=>hg p _ hp (Pnt.zero h.sz) (fun j h1 h2=>by omega)
  refine ins_rep h (r:=if φ (fun _=>0) then 1 else 0) ?_
  cases hz:φ (fun _=>0)
  ·exact⟨⟨by simp,by simp;omega⟩,fun p hp=>by rw[e p hp,hz,sayR_low (by simp)];rfl⟩
  ·exact⟨⟨by simp,by simp;omega⟩,fun p hp=>by rw[e p hp,hz,sayR_low (by simp)];rfl⟩
 |succ d ih=>
  intro hd N h φ hg
  have hl:S.length-(d+1)<S.length:=by omega
  have hcut:∀ψ∈cuts S φ (S.length-(d+1)),Hang S ψ (S.length-d):=fun ψ hψ=>by
   obtain⟨c,hc,rfl⟩:=cuts_mem hψ
   have:=hg.cut hc
   rwa [show S.length-(d+1)+1=S.length-d by omega] at this
  have hk:kidsF (ins S M) N (cuts S φ (S.length-(d+1)))=kidsF (insC S M d) N (cuts S φ (S.length-(d+1))):=kids_congr _ _ N h rfl (fun i h1 h2 N' hN'=>⟨ih (by omega) N' hN' _ (hcut _ (List.getElem_mem _)),(ins_out hN' (by omega) (hcut _ (List.getElem_mem _))).ok⟩)
  have ho:=kids_out (l:=S.length-d) (cuts S φ (S.length-(d+1))) N h (fun ψ hψ N' hN'=>ins_out hN' (by omega) (hcut ψ hψ))
  rw[ins_exp h hl hg,expF]
  rw[hk] at ho ⊢
  simp only[insC,kidsC_eq]
  by_cases he:(kidsF (insC S M d) N (cuts S φ (S.length-(d+1)))).2.1=0
  ·rw[if_pos he,if_pos he]
   refine mkC_eq ho.ok.nod ?_
   rcases ho.res with⟨_,g2,g3⟩|⟨g1,_⟩
   ·have hsz:=h.sz.each _ (show S.getD (S.length-(d+1)) 0∈S by rw[List.getD_eq_getElem?_getD,List.getElem?_eq_getElem hl];exact List.getElem_mem _)
    refine⟨by omega,by omega,?_,fun f hf=>?_⟩
    ·rw[g2,cuts_length,Int.toNat_natCast]
     omega
    ·obtain⟨i,hi,rfl⟩:=List.getElem_of_mem hf
     have h5:=g3 i (by rw[←g2];exact hi)
     rw[List.getD_eq_getElem?_getD,List.getElem?_eq_getElem hi] at h5
     exact⟨h5.1.1,by have:=h5.2;simp only[Option.getD_some] at this;omega⟩
   ·omega
  ·rw[if_neg he,if_neg he]
def foldC (S:List Int) (M:Int) (F:List Phi) (o:List Int):List Int×Int×List Nd:=kidsC (insC (ledS S o) M o.length) [] (F.map (ledF o))
theorem foldC_eq {F F':List Phi} {o:List Int} (hS:SzOk S) (ho:IsOrd S o) (h0:0≤M) (h8:M≤8192) (hl:F.length=F'.length) (hg:∀φ∈F,Hang (ledS S o) (ledF o φ) 0) (ha:∀i (h1:i<F.length) (h2:i<F'.length),Alike S F[i] F'[i]):foldF S M F o=foldC S M F' o:=by
 have hO:=Ok.nil (ledS_ok hS ho) h0 h8
 have hlen:(ledS S o).length=o.length:=by simp[ledS]
 unfold foldF foldC
 rw[kidsC_eq]
 refine kids_congr _ _ [] hO (by rw[List.length_map,List.length_map,hl]) (fun i h1 h2 N hN=>?_)
 rw[List.length_map] at h1 h2
 simp only[List.getElem_map]
 have hgi:=hg _ (List.getElem_mem h1)
 have hal:Alike (ledS S o) (ledF o F[i]) (ledF o F'[i]):=fun p hp=>ha i h1 h2 _ (led_pnt ho hp)
 refine⟨?_,(ins_out hN (Nat.zero_le _) hgi).ok⟩
 rw[ins_alike hN hgi hal]
 have:=insC_eq (S:=ledS S o) (M:=M) o.length (by omega) N hN (ledF o F'[i]) (by rw[hlen,Nat.sub_self];exact hgi.alike hal)
 exact this
end
def S4:List Int:=[2,2,2,2]
def Na:List Nd:=[(3,[1,0]),(3,[0,1]),(2,[2,0]),(2,[3,0]),(2,[0,2]),(2,[0,3]),(1,[4,5]),(1,[6,7]),(0,[8,9])]
def ψa:Phi:=fun p=>(p 2==p 0)&&(p 3==p 1)
theorem pnt4 {p:Nat→Nat} (h:Pnt S4 p):p 0<2∧p 1<2∧p 2<2∧p 3<2:=by
 have h0:=h 0 (by decide)
 have h1:=h 1 (by decide)
 have h2:=h 2 (by decide)
 have h3:=h 3 (by decide)
 simp[S4] at h0 h1 h2 h3
 omega
theorem lt2 {n:Nat} (h:n<2):n=0∨n=1:=by omega
theorem na_alike:Alike S4 (fun p=>sayR Na p 10) ψa:=fun p hp=>by
 obtain⟨h0,h1,h2,h3⟩:=pnt4 hp
 rcases lt2 h0 with e0|e0<;>rcases lt2 h1 with e1|e1<;>rcases lt2 h2 with e2|e2<;>rcases lt2 h3 with e3|e3<;>simp[sayR,sayN,Na,ψa,e0,e1,e2,e3]
theorem s4_ok:SzOk S4:=⟨by decide,by decide,by decide⟩
theorem ψa_hang {o:List Int} (ho:IsOrd S4 o):Hang (ledS S4 o) (ledF o ψa) 0:=fun p p' _ _ hj=>by
 have hlen:(ledS S4 o).length=4:=by rw[ledS_length ho];rfl
 have key:∀j:Nat,j<4→ledP o p j=ledP o p' j:=fun j hj4=>by
  have hm:(j:Int)∈o:=ho.mem (by show j<S4.length;exact hj4)
  have h1:=posO_lt hm
  have h2:o.length=4:=ho.len
  exact hj _ (Nat.zero_le _) (by omega)
 show ψa (ledP o p)=ψa (ledP o p')
 simp only[ψa,key 0 (by omega),key 1 (by omega),key 2 (by omega),key 3 (by omega)]
theorem na_hang {o:List Int} (ho:IsOrd S4 o):Hang (ledS S4 o) (ledF o (fun p=>sayR Na p 10)) 0:=(ψa_hang ho).alike (fun _ hp=>(na_alike _ (led_pnt ho hp)).symm)
theorem na_fold {M:Int} {o:List Int} (ho:IsOrd S4 o) (h0:0≤M) (h8:M≤8192):foldF S4 M [fun p=>sayR Na p 10] o=foldC S4 M [ψa] o:=
 foldC_eq s4_ok ho h0 h8 rfl (fun φ hφ=>by rw[List.mem_singleton.1 hφ];exact na_hang ho) (fun i h1 h2=>by
  have:i=0:=by simpa using h1
  subst this
  exact na_alike)
def cnC (o:List Int):Int:=match foldC S4 100 [ψa] o with
 |(_,e,N)=>if e=0 then(N.length:Int) else 101
theorem cnC_eq {o:List Int} (ho:IsOrd S4 o):cN S4 [fun p=>sayR Na p 10] 100 o=cnC o:=by
 unfold cN cnC
 rw[na_fold ho (by omega) (by omega)]
 rfl
theorem bsq_congr {c c':List Int→Int} {E:List Int} {v:Int}:∀(qs:List Nat) (y:Nat×Int),(∀q,c (mv E v q)=c' (mv E v q))→bsq c E v y qs=bsq c' E v y qs
 |[],_,_=>rfl
 |q::qs,y,h=>by
  show bsq c E v (if c (mv E v q)<y.2 then(q,c (mv E v q)) else y) qs=bsq c' E v (if c' (mv E v q)<y.2 then(q,c' (mv E v q)) else y) qs
  rw[h q]
  exact bsq_congr qs _ h
theorem nxtO_congr {c c':List Int→Int} {o:List Int} {v:Int} (hv:v∈o) (h:∀o',o'.Perm o→c o'=c' o'):nxtO c o v=nxtO c' o v:=by
 unfold nxtO
 rw[h o (List.Perm.refl _),bsq_congr (c:=c) (c':=c') _ _ (fun q=>h _ (by
  have h2:=mv_perm (o.erase v) v (o.idxOf v)
  rw[mv_back hv] at h2
  exact(mv_perm _ _ q).trans h2.symm))]
theorem bsO_congr {c c':List Int→Int} {o:List Int} {n:Nat} (ho:∀k:Nat,k<n→(k:Int)∈o) (h:∀o',o'.Perm o→c o'=c' o'):∀k,k≤n→bsO c o k=bsO c' o k
 |0,_=>rfl
 |k+1,hk=>by
  have ih:=bsO_congr ho h k (by omega)
  have hp:=bsO_perm (c:=c') ho k (by omega)
  show nxtO c (bsO c o k) _=nxtO c' (bsO c' o k) _
  rw[ih]
  exact nxtO_congr (hp.mem_iff.2 (ho k (by omega))) (fun o' h1=>h o' (h1.trans hp))
theorem na_low:IsOrd S4 (lows 4):=⟨by decide,by decide,by decide⟩
theorem na_ord:IsOrd S4 [0,2,1,3]:=⟨by decide,by decide,by decide⟩
theorem na_best0:bsO cnC (lows 4) 4=[0,2,1,3]:=by decide+kernel
theorem na_best:bsO (cN S4 [fun p=>sayR Na p 10] 100) (lows 4) 4=[0,2,1,3]:=by
 rw[bsO_congr (c':=cnC) (n:=4) (fun k hk=>by
  have:k=0∨k=1∨k=2∨k=3:=by omega
  rcases this with rfl|rfl|rfl|rfl<;>decide) (fun o' hp=>cnC_eq ⟨hp.nodup_iff.2 na_low.nod,hp.length_eq.trans na_low.len,fun l hl=>na_low.rng l (hp.mem_iff.1 hl)⟩) 4 (Nat.le_refl _)]
 exact na_best0
def Nb:List Nd:=[(3,[1,0]),(3,[0,1]),(2,[2,3]),(1,[4,0]),(1,[0,4]),(0,[5,6])]
theorem na_six:foldF S4 6 [fun p=>sayR Na p 10] [0,2,1,3]=([7],0,Nb):=by
 rw[na_fold na_ord (by omega) (by omega)]
 decide+kernel
theorem na_five:(foldF S4 5 [fun p=>sayR Na p 10] [0,2,1,3]).2.1=2:=by
 rw[na_fold na_ord (by omega) (by omega)]
 decide+kernel
end Go.Proofs.Ytnddhkhmbjeefaa
namespace Go.Proofs.Ytnddhkhmbjeefaa
open Go.RowKit Go.Lib Go.Maps
structure ArR (w0 w:World) (a:Nat) (S:List Int) (M:Int) (N:List Nd) (m:Nat) (P:Nat→Prop) (v1:Value) (L1:List Int) (v2:Value) (L2:List Int):Prop where
 ca:CA w a S M N m P
 low:∀j,P j→w0.heap.size≤j
 bel:Below w0.heap.size w0 w
 r1:w.ownsRow w0.heap.size 3 1 v1 L1.length (zC L1)
 r2:w.ownsRow w0.heap.size 3 1 v2 L2.length (zC L2)
 n1:∀j,v1.ownBlock=some j→¬P j
 n2:∀j,v2.ownBlock=some j→¬P j
 n12:∀j,v1.ownBlock=some j→v2.ownBlock≠some j
section
variable {w0 w w':World} {a:Nat} {S:List Int} {M:Int} {N N':List Nd} {m:Nat} {P P':Nat→Prop} {v1 v2:Value} {L1 L2:List Int}
theorem ArR.below (h:ArR w0 w a S M N m P v1 L1 v2 L2) (y:Below w.heap.size w w'):ArR w0 w' a S M N m P v1 L1 v2 L2:=
 ⟨h.ca.below y,h.low,bt h.bel y (Nat.le_refl _)|>.mono (Nat.le_refl _),own_below h.r1 y,own_below h.r2 y,h.n1,h.n2,h.n12⟩
theorem own_low {base e size n:Nat} {v:Value} {xs:List Value} (h:w.ownsRow base e size v n xs) {j:Nat} (hj:v.ownBlock=some j):base≤j∧j<w.heap.size:=by
 rcases h.2 with⟨e1,_⟩|⟨g,cap,cur,e1,hb,hg,_⟩
 ·rw[e1] at hj;cases hj
 ·rw[e1] at hj
  have hj':g=j:=by simpa [Value.ownBlock] using hj
  subst hj'
  exact⟨hb,lt_of_block hg⟩
theorem ArR.make (h:ArR w0 w a S M N m P v1 L1 v2 L2) {m':Nat} (hc:CA w' a S M N' m' P') (hk:Kept P w w') (hp:∀k,P' k→P k∨w.heap.size≤k):ArR w0 w' a S M N' m' P' v1 L1 v2 L2:=by
 refine⟨hc,fun j hj=>?_,h.bel.trans (hk.below h.bel.size h.low),own_kept h.r1 hk h.n1,own_kept h.r2 hk h.n2,fun j hj hp'=>?_,fun j hj hp'=>?_,h.n12⟩
 ·rcases hp j hj with h1|h1
  ·exact h.low j h1
  ·exact Nat.le_trans h.bel.size h1
 ·rcases hp j hp' with h1|h1
  ·exact h.n1 j hj h1
  ·have:=(own_low h.r1 hj).2
   omega
 ·rcases hp j hp' with h1|h1
  ·exact h.n2 j hj h1
  ·have:=(own_low h.r2 hj).2
   omega
theorem ArR.push {xW:World} {x:Int} {g cap:Nat} (h:ArR w0 w a S M N m P v1 L1 v2 L2) (y:Below w.heap.size w xW) (O:w'.ownsRow w0.heap.size 3 1 (.slice (some ⟨g,0,none⟩) (L2.length+1) cap) (L2.length+1) (zC L2++[.int .i64 x])) (G:xW.grownBy w' v2.ownBlock) (hg:v2.ownBlock=some g∨g=xW.heap.size):
 ArR w0 w' a S M N m P v1 L1 (.slice (some ⟨g,0,none⟩) (L2++[x]).length cap) (L2++[x]):=by
 have hx:=h.below y
 have k:Kept (fun j=>v2.ownBlock=some j) xW w':=(Kept.refl _ xW).grown G (fun _ e=>e)
 have hl:(L2++[x]).length=L2.length+1:=by simp
 have hgn:∀j,(Value.slice (some ⟨g,0,none⟩) (L2++[x]).length cap).ownBlock=some j→j=g:=fun j hj=>by
  have:g=j:=by simpa [Value.ownBlock] using hj
  exact this.symm
 refine⟨hx.ca.kept k (fun j hj e=>hx.n2 j e hj),hx.low,hx.bel.trans (k.below hx.bel.size (fun j hj=>(own_low hx.r2 hj).1)),own_kept hx.r1 k (fun j hj e=>hx.n12 j hj e),?_,hx.n1,fun j hj hp=>?_,fun j hj e=>?_⟩
 ·rw[hl,show zC (L2++[x])=zC L2++[.int .i64 x] by simp[zC]]
  exact O
 ·have:=hgn j hj
  subst this
  rcases hg with e|e
  ·exact hx.n2 _ e hp
  ·have:=hx.ca.plt hp
   omega
 ·have:=hgn j e
  subst this
  rcases hg with e|e
  ·exact hx.n12 _ hj e
  ·have:=(own_low hx.r1 hj).2
   omega
theorem ArR.turn (h:ArR w0 w a S M N m P v1 L1 v2 L2):ArR w0 w a S M N m P v2 L2 (.slice none 0 0) []:=
 ⟨h.ca,h.low,h.bel,h.r2,World.ownsRow_nil _ _ _ _,h.n2,fun _ hj=>(by cases hj),fun _ _ e=>(by cases e)⟩
theorem ArR.drop (h:ArR w0 w a S M N m P v1 L1 v2 L2):ArR w0 w a S M N m P v1 L1 (.slice none 0 0) []:=
 ⟨h.ca,h.low,h.bel,h.r1,World.ownsRow_nil _ _ _ _,h.n1,fun _ hj=>(by cases hj),fun _ _ e=>(by cases e)⟩
end
theorem na_all:∀k,k<9→mayC S4 (Na.take k) (Na.getD k (0,[])).1 (Na.getD k (0,[])).2=true∧mkC 9 (Na.take k) (Na.getD k (0,[])).1 (Na.getD k (0,[])).2=((k:Int)+2,0,Na.take (k+1)):=by decide+kernel
theorem na_make (k:Nat) (hk:k<9):MkP S4 9 (Na.take k) (Na.getD k (0,[])).1 (Na.getD k (0,[])).2 ((k:Int)+2) 0 (Na.take (k+1)):=by
 obtain⟨h1,h2⟩:=na_all k hk
 have:=mkC_P (M:=9) (mayC_may h1)
 rwa [h2] at this
section
variable {w0 w:World} {a k:Nat} {P:Nat→Prop} {v1 v2:Value} {L1 L2:List Int}
theorem ArR.mkNa (h:ArR w0 w a S4 9 (Na.take k) k P v1 L1 v2 L2) (hk:k<9) {V:World} (y:Below w.heap.size w V) (g c:Nat) {lv:Int} {A:List Int} (e1:(Na.getD k (0,[])).1=lv) (e2:(Na.getD k (0,[])).2=A) (hz:ZAt V (some ⟨g,0,none⟩) A):
 Calls Try.prog 22 #[.pointer (some ⟨a,0,none⟩),.int .i64 lv,.slice (some ⟨g,0,none⟩) A.length c] V fun e w'=>e=.returned (.tuple #[.int .i64 ((k:Int)+2),.int .i64 0])∧∃P',ArR w0 w' a S4 9 (Na.take (k+1)) (k+1) P' v1 L1 v2 L2:=by
 have hk0:=na_make k hk
 rw[e1,e2] at hk0
 have hA:A.length≤2:=by
  rw[←e2]
  have:∀j,j<9→(Na.getD j (0,[])).2.length≤2:=by decide
  exact this k hk
 refine((h.below y).ca.make lv _ c A (by omega) hz (by omega)).mono ?_
 rintro e w' ⟨f2,er2,N2,rfl,h2,P',h3,h4,h5,_⟩
 obtain⟨rfl,rfl,rfl⟩:=MkP.one (h.ca.ok.nod) h2 hk0
 exact⟨rfl,P',(h.below y).make h3 h4 h5⟩
end
structure PmI (w0 w:World) (v1:Value) (L1:List Int) (v2:Value) (L2:List Int):Prop where
 bel:Below w0.heap.size w0 w
 r1:w.ownsRow w0.heap.size 3 1 v1 L1.length (zC L1)
 r2:w.ownsRow w0.heap.size 3 1 v2 L2.length (zC L2)
 n12:∀j,v1.ownBlock=some j→v2.ownBlock≠some j
section
variable {w0 w w':World} {v1 v2:Value} {L1 L2:List Int}
theorem PmI.below (h:PmI w0 w v1 L1 v2 L2) (y:Below w.heap.size w w'):PmI w0 w' v1 L1 v2 L2:=⟨bt h.bel y (Nat.le_refl _),own_below h.r1 y,own_below h.r2 y,h.n12⟩
theorem PmI.push {xW:World} {x:Int} {g cap:Nat} (h:PmI w0 w v1 L1 v2 L2) (y:Below w.heap.size w xW) (O:w'.ownsRow w0.heap.size 3 1 (.slice (some ⟨g,0,none⟩) (L2.length+1) cap) (L2.length+1) (zC L2++[.int .i64 x])) (G:xW.grownBy w' v2.ownBlock) (hg:v2.ownBlock=some g∨g=xW.heap.size):
 PmI w0 w' v1 L1 (.slice (some ⟨g,0,none⟩) (L2++[x]).length cap) (L2++[x]):=by
 have hx:=h.below y
 have k:Kept (fun j=>v2.ownBlock=some j) xW w':=(Kept.refl _ xW).grown G (fun _ e=>e)
 have hl:(L2++[x]).length=L2.length+1:=by simp
 refine⟨hx.bel.trans (k.below hx.bel.size (fun j hj=>(own_low hx.r2 hj).1)),own_kept hx.r1 k (fun j hj e=>hx.n12 j hj e),?_,fun j hj e=>?_⟩
 ·rw[hl,show zC (L2++[x])=zC L2++[.int .i64 x] by simp[zC]]
  exact O
 ·have:g=j:=by simpa [Value.ownBlock] using e
  subst this
  rcases hg with e|e
  ·exact hx.n12 _ hj e
  ·have:=(own_low hx.r1 hj).2
   omega
theorem PmI.anew {w1 w2:World} {vm v3:Value} {j:Nat} (h:PmI w0 w v1 L1 v2 L2) (hj:j<L1.length) (G1:w.grownBy w1 none) (B1:vm.ownBlock=none∨vm.ownBlock=some w.heap.size)
 (O2:w2.ownsRow w0.heap.size 3 1 v3 (j+(L1.length-(j+1))) ((zC L1).take j++(zC L1).drop (j+1))) (G2:w1.grownBy w2 vm.ownBlock) (B2:v3.ownBlock=vm.ownBlock∨v3.ownBlock=some w1.heap.size):
 PmI w0 w2 v3 (L1.eraseIdx j) v2 L2:=by
 have k1:Below w.heap.size w w1:=(kept_grown G1).below (Nat.le_refl _) (fun _ e=>by cases e)
 have k2:=kept_grown G2
 have hvm:∀z,vm.ownBlock=some z→w.heap.size≤z:=fun z hz=>by
  rcases B1 with e|e
  ·rw[e] at hz;cases hz
  ·rw[e] at hz
   have:=Option.some.inj hz
   omega
 have h1:=h.below k1
 have hsz:=h.bel.size
 have hsz1:=k1.size
 have he:(L1.eraseIdx j).length=j+(L1.length-(j+1)):=by rw[List.length_eraseIdx_of_lt hj];omega
 have hz:zC (L1.eraseIdx j)=(zC L1).take j++(zC L1).drop (j+1):=by
  rw[List.eraseIdx_eq_take_drop_succ]
  simp[zC,List.map_take,List.map_drop]
 refine⟨h1.bel.trans (k2.below h1.bel.size (fun z hz=>by have:=hvm z hz;omega)),by rw[he,hz];exact O2,own_kept h1.r2 k2 (fun z hz e=>?_),fun z hz e=>?_⟩
 ·have:=hvm z e
  have:=(own_low h.r2 hz).2
  omega
 ·have h3:=(own_low h.r2 e).2
  rcases B2 with e2|e2
  ·rw[e2] at hz
   have:=hvm z hz
   omega
  ·rw[e2] at hz
   have:=Option.some.inj hz
   omega
end
structure PmP (raw:List Int) (n k:Nat) (O L:List Int):Prop where
 lo:O.length=k
 ll:L.length=n-k
 pm:(O++L).Perm (lows n)
 id:raw=[]→O=(lows n).take k∧L=(lows n).drop k
section
variable {raw:List Int} {n k j:Nat} {O L:List Int}
theorem lows_len:(lows n).length=n:=by simp[lows]
theorem PmP.start:PmP raw n 0 [] (lows n):=⟨rfl,by rw[lows_len];omega,List.Perm.refl _,fun _=>⟨rfl,rfl⟩⟩
theorem PmP.step (h:PmP raw n k O L) (hj:j<L.length) (h0:raw=[]→j=0):PmP raw n (k+1) (O++[L[j]]) (L.eraseIdx j):=by
 have hl:=h.ll
 refine⟨by rw[List.length_append,h.lo];rfl,by rw[List.length_eraseIdx_of_lt hj];omega,?_,fun hr=>?_⟩
 ·refine List.Perm.trans ?_ h.pm
  rw[List.append_assoc]
  refine List.Perm.append_left O ?_
  have:L=L.take j++L[j]::L.drop (j+1):=by rw[←List.drop_eq_getElem_cons hj,List.take_append_drop]
  have e:L.eraseIdx j=L.take j++L.drop (j+1):=List.eraseIdx_eq_take_drop_succ _ _
  rw[e]
  refine List.Perm.trans ?_ (List.Perm.of_eq this.symm)
  show(L[j]::(L.take j++L.drop (j+1))).Perm _
  exact(List.perm_middle).symm
 ·obtain⟨e1,e2⟩:=h.id hr
  have hj0:=h0 hr
  subst hj0
  have hk:k<(lows n).length:=by rw[lows_len];omega
  have hd:=List.drop_eq_getElem_cons hk
  have e3:L[0]=(lows n)[k]:=by
   simp only[e2,hd]
   rfl
  refine⟨by rw[e3,e1,List.take_succ_eq_append_getElem hk],?_⟩
  rw[e2,hd]
  rfl
theorem PmP.done (h:PmP raw n n O L):O.Perm (lows n)∧(raw=[]→O=lows n):=by
 have hl:L=[]:=List.length_eq_zero_iff.1 (by rw[h.ll];omega)
 have h1:=h.pm
 rw[hl,List.append_nil] at h1
 exact⟨h1,fun hr=>by rw[(h.id hr).1];exact List.take_of_length_le (by rw[lows_len];exact Nat.le_refl _)⟩
end
end Go.Proofs.Ytnddhkhmbjeefaa

