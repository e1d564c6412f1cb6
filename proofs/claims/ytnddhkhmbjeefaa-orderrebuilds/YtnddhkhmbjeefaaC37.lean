/-
  An order turned round, in memory; what led wants. No condition.
-/
import Derived.Test.YtnddhkhmbjeefaaC33
import Derived.Test.YtnddhkhmbjeefaaC32
import Derived.Test.YtnddhkhmbjeefaaC31
import Derived.Test.YtnddhkhmbjeefaaC36
namespace Go.Proofs.Ytnddhkhmbjeefaa
open Go.RowKit Go.Lib Go.Maps
structure BkP (o:List Int) (k:Nat) (L:List Int):Prop where
 len:L.length=o.length
 at':∀i (h:i<o.length),i<k→L[(o[i]).toNat]? =some (i:Int)
section
variable {S o L:List Int} {k:Nat}
theorem BkP.start:BkP o 0 (List.replicate o.length 0):=⟨by simp,fun i _ h=>by omega⟩
theorem BkP.step (h:BkP o k L) (ho:IsOrd S o) (hk:k<o.length):BkP o (k+1) (L.set (o[k]).toNat (k:Int)):=by
 have hr:=ho.rng _ (List.getElem_mem hk)
 have hl:=ho.len
 refine⟨by rw[List.length_set];exact h.len,fun i hi hik=>?_⟩
 by_cases e:i=k
 ·subst e
  rw[List.getElem?_set_self (by rw[h.len];omega)]
 ·have hne:(o[k]).toNat≠(o[i]).toNat:=fun e2=>by
   have hri:=ho.rng _ (List.getElem_mem hi)
   have e3:o[i]=o[k]:=by omega
   rcases Nat.lt_or_ge i k with h1|h1
   ·exact List.pairwise_iff_getElem.1 ho.nod i k hi hk h1 e3
   ·omega
  rw[List.getElem?_set_ne hne]
  exact h.at' i hi (by omega)
theorem BkP.done (h:BkP o o.length L):BackO o L:=⟨h.len,fun i hi=>h.at' i hi hi⟩
theorem RwZ.put {w:World} {b:Nat} {L:List Int} (h:RwZ w b L) (j:Nat) (x:Int):RwZ (w.setCell ⟨b,j,none⟩ (.int .i64 x)) b (L.set j x):=by
 unfold RwZ at *
 rw[block_setCell h j]
 congr 2
 apply Array.ext'
 simp[zC,List.map_set]
end
structure BoX (w:World) (bb a:Nat) (xv:Value) (ro:Option Addr) (rc:Nat) (S:List Int) (M:Int) (N:List Nd) (rs:List Int):Prop where
 blk:w.heap[bb]? =some (.cells #[.pointer (some ⟨a,0,none⟩),xv,.slice ro rs.length rc] 36 (0,0))
 ca:∃m P,CA w a S M N m P
 rt:ZAt w ro rs
 has:∀f∈rs,hasR N f
 few:rs.length≤20
 ls:S.length≤7
 lc:∀x∈S,x≤4
 m0:0≤M
 m8:M≤8192
section
variable {w w':World} {bb a:Nat} {xv:Value} {ro:Option Addr} {rc:Nat} {S:List Int} {M:Int} {N:List Nd} {rs:List Int}
theorem BoX.below (h:BoX w bb a xv ro rc S M N rs) (y:Below w.heap.size w w'):BoX w' bb a xv ro rc S M N rs:=by
 obtain⟨m,P,hc⟩:=h.ca
 exact⟨(y.block _ (lt_of_obj h.blk)).trans h.blk,⟨m,P,hc.below y⟩,h.rt.below y,h.has,h.few,h.ls,h.lc,h.m0,h.m8⟩
theorem BoX.ok (h:BoX w bb a xv ro rc S M N rs):Ok S M N:=by
 obtain⟨m,P,hc⟩:=h.ca
 exact hc.ok
theorem BoX.sml (h:BoX w bb a xv ro rc S M N rs):Sml S (rs.map fun f p=>sayR N p f):=⟨h.ls,h.lc,_,by rw[List.length_map];have:=h.few;omega,fun _ hh=>hh⟩
theorem BoX.reb (h:BoX w bb a xv ro rc S M N rs) {o:List Int} (ho:IsOrd S o) (oo:Option Addr) (oc:Nat) (hz:ZAt w oo o):
 Calls Try.prog 12 #[.pointer (some ⟨a,0,none⟩),.slice ro rs.length rc,.slice oo o.length oc,.int .i64 8192] w fun e w'=>RbL S 8192 (rs.map fun f p=>sayR N p f) o rs.length w e w':=by
 obtain⟨m,P,hc⟩:=h.ca
 exact rebuild_any ro oo rc oc hc h.rt hz h.has (by have:=h.few;omega) ho (by decide) (by decide) h.sml
theorem BoX.turn (h:BoX w bb a xv ro rc S M N rs) {o b:List Int} (ho:IsOrd S o) (hb:BackO o b) {R:List Int} {L:List Lay} (G:GD S (rs.map fun f p=>sayR N p f) R L) (he:(foldF S 8192 (rs.map fun f p=>sayR N p f) o).2.1=0) {c mc:Nat} {PC:Nat→Prop} (hc:CA w c (ledS S o) 8192 (foldF S 8192 (rs.map fun f p=>sayR N p f) o).2.2 mc PC) (lo bo:Option Addr) (lc bc:Nat) (hl:ZAt w lo (foldF S 8192 (rs.map fun f p=>sayR N p f) o).1) (hz:ZAt w bo b):
 Calls Try.prog 12 #[.pointer (some ⟨c,0,none⟩),.slice lo rs.length lc,.slice bo b.length bc,.int .i64 8192] w fun e w'=>∃d g cc m' P',e=.returned (.tuple #[.pointer (some ⟨d,0,none⟩),.slice (some ⟨g,0,none⟩) rs.length cc,.int .i64 0])∧RwZ w' g (foldF S 8192 (rs.map fun f p=>sayR N p f) (lows S.length)).1∧CA w' d S 8192 (foldF S 8192 (rs.map fun f p=>sayR N p f) (lows S.length)).2.2 m' P'∧Below w.heap.size w w':=by
 have hok:=h.ok
 have hm8:=h.m8
 have e1:=led_turn hok ho hb h.has G (M1:=8192) (M2:=8192) (by decide) (by decide) (by decide) (by decide) he
 have e2:=low_room hok h.has G (M2:=8192) (by omega) (by decide)
 have hout:(foldF S 8192 (rs.map fun f p=>sayR N p f) o).1.length=rs.length∧∀f∈(foldF S 8192 (rs.map fun f p=>sayR N p f) o).1,hasR (foldF S 8192 (rs.map fun f p=>sayR N p f) o).2.2 f:=by
  obtain⟨L',G',e'⟩:=order_ex hok.sz ho G
  have oo:=fold_out hok.sz G' (M:=8192) (by decide) (by decide)
  rw[e'] at oo
  obtain⟨_,k1,k2⟩:=oo.res.resolve_right (fun hh=>by have:=hh.1;omega)
  rw[List.length_map,List.length_map] at k1
  refine⟨k1,fun f hf=>?_⟩
  obtain⟨i,hi,rfl⟩:=List.getElem_of_mem hf
  have:=(k2 i (by rw[List.length_map,List.length_map,←k1];exact hi)).1.1
  rwa [List.getD_eq_getElem?_getD,List.getElem?_eq_getElem hi] at this
 have hsm:Sml (ledS S o) ((foldF S 8192 (rs.map fun f p=>sayR N p f) o).1.map fun f p=>sayR (foldF S 8192 (rs.map fun f p=>sayR N p f) o).2.2 p f):=by
  refine⟨by rw[ledS_length ho];exact h.ls,fun x hx=>?_,_,by rw[List.length_map,hout.1];have:=h.few;omega,fun _ hh=>hh⟩
  obtain⟨v,_,rfl⟩:=List.mem_map.1 hx
  exact h.sml.sz v
 have:=rebuild_any (most:=8192) lo bo lc bc hc hl hz hout.2 (by rw[hout.1];have:=h.few;omega) (hb.ord ho) (by decide) (by decide) hsm
 rw[hout.1] at this
 refine this.mono (fun e w' hr=>?_)
 unfold RbL at hr
 rw[e1,hb.sizes ho] at hr
 obtain⟨hor,hbl,_⟩:=hr
 rcases hor with⟨_,d,g,cc,P',h1,h2,h3,_⟩|⟨h1,_⟩
 ·exact⟨d,g,cc,_,P',h1,h2,h3,hbl⟩
 ·exact absurd e2 h1
theorem BoX.low (h:BoX w bb a xv ro rc S M N rs) {R:List Int} {L:List Lay} (G:GD S (rs.map fun f p=>sayR N p f) R L) (oo:Option Addr) (oc:Nat) (hz:ZAt w oo (lows S.length)):
 Calls Try.prog 12 #[.pointer (some ⟨a,0,none⟩),.slice ro rs.length rc,.slice oo S.length oc,.int .i64 8192] w fun e w'=>∃d g cc m' P',e=.returned (.tuple #[.pointer (some ⟨d,0,none⟩),.slice (some ⟨g,0,none⟩) rs.length cc,.int .i64 0])∧RwZ w' g (foldF S 8192 (rs.map fun f p=>sayR N p f) (lows S.length)).1∧CA w' d S 8192 (foldF S 8192 (rs.map fun f p=>sayR N p f) (lows S.length)).2.2 m' P'∧Below w.heap.size w w':=by
 have hm8:=h.m8
 have e2:=low_room h.ok h.has G (M2:=8192) (by omega) (by decide)
 have:=h.reb (lows_ord S) oo oc hz
 rw[lows_len] at this
 refine this.mono (fun e w' hr=>?_)
 unfold RbL at hr
 rw[ledS_lows] at hr
 obtain⟨hor,hbl,_⟩:=hr
 rcases hor with⟨_,d,g,cc,P',h1,h2,h3,_⟩|⟨h1,_⟩
 ·exact⟨d,g,cc,_,P',h1,h2,h3,hbl⟩
 ·exact absurd e2 h1
end
end Go.Proofs.Ytnddhkhmbjeefaa

