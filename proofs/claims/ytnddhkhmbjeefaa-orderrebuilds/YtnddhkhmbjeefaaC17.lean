/-
  lift to where the level stands already: the diagram as it is. No condition.
-/
import Derived.Test.YtnddhkhmbjeefaaC14
import Derived.Test.YtnddhkhmbjeefaaC10
import Derived.Test.YtnddhkhmbjeefaaC03
import Derived.Test.YtnddhkhmbjeefaaC05
import Derived.Test.YtnddhkhmbjeefaaC04
namespace Go.Proofs.Ytnddhkhmbjeefaa
open Go.RowKit Go.Lib Go.Maps
section
variable {w:World} {lb lc nr nl rc:Nat} {ra:Option Addr}
set_option maxRecDepth 100000 in
set_option maxHeartbeats 1000000 in
theorem lift_same (k most:Int):
 Calls Try.prog 32 #[dgV ra nr rc lb nl lc,.int .i64 k,.int .i64 k,.int .i64 most] w fun e w'=>e=.returned (.tuple #[dgV ra nr rc lb nl lc,.bool true])∧Below w.heap.size w w':=by
 have X1:Hid (Below w.heap.size w ((w.alloc (.cells #[.slice ra nr rc,.slice (some ⟨lb,0,none⟩) nl lc] 70)).alloc (.cells #[.slice none 0 0,.slice none 0 0] 70))):=al (al (Below.refl _ _) _) _
 have B0:Hid (((w.alloc (.cells #[.slice ra nr rc,.slice (some ⟨lb,0,none⟩) nl lc] 70)).alloc (.cells #[.slice none 0 0,.slice none 0 0] 70)).heap[w.heap.size]? =some (.cells #[.slice ra nr rc,.slice (some ⟨lb,0,none⟩) nl lc] 70 (0,0))):=((al (Below.refl _ (w.alloc (.cells #[.slice ra nr rc,.slice (some ⟨lb,0,none⟩) nl lc] 70))) (.cells #[.slice none 0 0,.slice none 0 0] 70)).block _ (by simp)).trans (heap_alloc_new w _)
 have B1:Hid (((w.alloc (.cells #[.slice ra nr rc,.slice (some ⟨lb,0,none⟩) nl lc] 70)).alloc (.cells #[.slice none 0 0,.slice none 0 0] 70)).heap[w.heap.size+1]? =some (.cells #[.slice none 0 0,.slice none 0 0] 70 (0,0))):=by
  have:=heap_alloc_new (w.alloc (.cells #[.slice ra nr rc,.slice (some ⟨lb,0,none⟩) nl lc] 70)) (.cells #[.slice none 0 0,.slice none 0 0] 70)
  simpa [Hid] using this
 go_enter Try.func32,Try.ntmps32
 go_upto_region 1 with fail
 generalize (w.alloc (.cells #[.slice ra nr rc,.slice (some ⟨lb,0,none⟩) nl lc] 70)).alloc (.cells #[.slice none 0 0,.slice none 0 0] 70)=w1 at *
 have o0:w1.cell? ⟨w.heap.size,0,none⟩=some (.slice ra nr rc):=by rw[cell_of_row w1 _ _ _ _ _ B0.out];rfl
 have o1:w1.cell? ⟨w.heap.size,1,none⟩=some (.slice (some ⟨lb,0,none⟩) nl lc):=by rw[cell_of_row w1 _ _ _ _ _ B0.out];rfl
 have s0:w1.cell? ⟨w.heap.size+1,0,none⟩=some (.slice none 0 0):=by rw[cell_of_row w1 _ _ _ _ _ B1.out];rfl
 have s1:w1.cell? ⟨w.heap.size+1,1,none⟩=some (.slice none 0 0):=by rw[cell_of_row w1 _ _ _ _ _ B1.out];rfl
 have g0:=frozen_of_row w1 (w.heap.size+1) 0 _ _ B1.out
 have g1:=frozen_of_row w1 (w.heap.size+1) 1 _ _ B1.out
 go_wp2
 have k10:Kept (fun z=>z=w.heap.size+1) w1 ((w1.setCell ⟨w.heap.size+1,0,none⟩ (.slice ra nr rc)).setCell ⟨w.heap.size+1,1,none⟩ (.slice (some ⟨lb,0,none⟩) nl lc)):=((Kept.refl (fun z=>z=w.heap.size+1) w1).setCell (p:=⟨w.heap.size+1,0,none⟩) rfl _).setCell (p:=⟨w.heap.size+1,1,none⟩) rfl _
 have b10:((w1.setCell ⟨w.heap.size+1,0,none⟩ (.slice ra nr rc)).setCell ⟨w.heap.size+1,1,none⟩ (.slice (some ⟨lb,0,none⟩) nl lc)).heap[w.heap.size+1]? =some (.cells #[.slice ra nr rc,.slice (some ⟨lb,0,none⟩) nl lc] 70 (0,0)):=by
  have:=block_setCell (block_setCell B1.out 0 (.slice ra nr rc)) 1 (.slice (some ⟨lb,0,none⟩) nl lc)
  simpa using this
 clear s0 s1 g0 g1 o0 o1
 generalize (w1.setCell ⟨w.heap.size+1,0,none⟩ (.slice ra nr rc)).setCell ⟨w.heap.size+1,1,none⟩ (.slice (some ⟨lb,0,none⟩) nl lc)=w10 at *
 have s0:w10.cell? ⟨w.heap.size+1,0,none⟩=some (.slice ra nr rc):=by rw[cell_of_row w10 _ _ _ _ _ b10];rfl
 have s1:w10.cell? ⟨w.heap.size+1,1,none⟩=some (.slice (some ⟨lb,0,none⟩) nl lc):=by rw[cell_of_row w10 _ _ _ _ _ b10];rfl
 refine bodyPost_ret (v:=.tuple #[.agg #[.slice ra nr rc,.slice (some ⟨lb,0,none⟩) nl lc],.bool true]) ?_ rfl ?_
 ·rw[results_cell_tmp rfl]
  go_simp
 ·exact⟨rfl,X1.out.trans (k10.below X1.out.size (fun z hz=>by omega))⟩
end
end Go.Proofs.Ytnddhkhmbjeefaa
namespace Go.Proofs.Ytnddhkhmbjeefaa
open Go.RowKit
def posO:List Int→Int→Nat
 |[],_=>0
 |a::o,l=>if a=l then 0 else posO o l+1
theorem posO_lt:∀ {o:List Int} {l:Int},l∈o→posO o l<o.length
 |a::o,l,h=>by
  unfold posO
  split
  ·simp
  ·rename_i e
   have:=posO_lt (o:=o) (l:=l) ((List.mem_cons.1 h).resolve_left (fun h=>e h.symm))
   simp only[List.length_cons];omega
theorem posO_not:∀ {o:List Int} {l:Int},l∉o→posO o l=o.length
 |[],_,_=>rfl
 |a::o,l,h=>by
  rw[posO,if_neg (fun e=>h (by simp[e])),posO_not (fun k=>h (by simp[k])),List.length_cons]
theorem posO_get:∀ {o:List Int} {l:Int},l∈o→o[posO o l]? =some l
 |a::o,l,h=>by
  unfold posO
  split
  ·rename_i e;rw[e];rfl
  ·rename_i e
   rw[List.getElem?_cons_succ]
   exact posO_get ((List.mem_cons.1 h).resolve_left (fun h=>e h.symm))
theorem posO_app:∀ {A B:List Int} {l:Int},l∉A→posO (A++B) l=A.length+posO B l
 |[],B,l,_=>by simp
 |a::A,B,l,h=>by
  rw[List.cons_append,posO,if_neg (fun e=>h (by simp[e])),posO_app (fun k=>h (by simp[k])),List.length_cons]
  omega
theorem posO_nodup {o:List Int} (hn:o.Nodup) {i:Nat} {l:Int} (h:o[i]? =some l):posO o l=i:=by
 have hm:l∈o:=List.mem_of_getElem? h
 have h1:=posO_lt hm
 have h2:=posO_get hm
 have hi:i<o.length:=by
  rcases Nat.lt_or_ge i o.length with h3|h3
  ·exact h3
  ·rw[List.getElem?_eq_none h3] at h;cases h
 rw[List.getElem?_eq_getElem h1] at h2
 rw[List.getElem?_eq_getElem hi] at h
 exact at_inj hn h1 hi ((Option.some.inj h2).trans (Option.some.inj h).symm)
def ledP (o:List Int) (p':Nat→Nat):Nat→Nat:=fun j=>p' (posO o (j:Int))
def ledS (S:List Int) (o:List Int):List Int:=o.map (szL S)
def ledF (o:List Int) (φ:Phi):Phi:=fun p'=>φ (ledP o p')
def rowF (o:List Int) (L:List Lay) (x:Int):Phi:=fun p'=>sayL L x (ledP o p')
structure IsOrd (S:List Int) (o:List Int):Prop where
 nod:o.Nodup
 len:o.length=S.length
 rng:∀l∈o,0≤l∧l<(S.length:Int)
section
variable {S:List Int} {M:Int} {N:List Nd} {o:List Int} {L A T:List Lay} {l:Lay} {p p':Nat→Nat} {F:List Phi} {R:List Int} {φ:Phi}
theorem IsOrd.mem (h:IsOrd S o) {j:Nat} (hj:j<S.length):(j:Int)∈o:=by
 refine Classical.byContradiction (fun hn=>?_)
 have:=pigR (R:=fun(a:Int) (b:Nat)=>a=(b:Int)) ((j:Int)::o) (List.range S.length) (List.nodup_cons.2 ⟨hn,h.nod⟩) (fun a ha=>by
  rcases List.mem_cons.1 ha with rfl|ha
  ·exact⟨j,List.mem_range.2 hj,rfl⟩
  ·have:=h.rng a ha
   exact⟨a.toNat,List.mem_range.2 (by omega),by omega⟩) (fun a _ a' _ b h1 h2=>h1.trans h2.symm)
 rw[List.length_cons,List.length_range,h.len] at this
 omega
theorem Wf.ord (w:Wf S L) (hl:L.length=S.length):IsOrd S (L.map (·.1)):=⟨w.nodup,by simpa using hl,fun l hm=>w.ge l hm⟩
theorem GD.ord (G:GD S F R L):IsOrd S (L.map (·.1)):=G.wf.ord G.len
theorem ledS_length (h:IsOrd S o):(ledS S o).length=S.length:=by rw[ledS,List.length_map];exact h.len
theorem ledS_at {i:Nat} {lv:Int} (h:o[i]? =some lv):(ledS S o).getD i 0=szL S lv:=by
 rw[List.getD_eq_getElem?_getD,ledS,List.getElem?_map,h];rfl
theorem ledS_ok (hS:SzOk S) (h:IsOrd S o):SzOk (ledS S o):=⟨by rw[ledS_length h];exact hS.ge,by rw[ledS_length h];exact hS.le,fun s hs=>by
 obtain⟨lv,hl,rfl⟩:=List.mem_map.1 hs
 exact hS.at (h.rng lv hl).1 (h.rng lv hl).2⟩
theorem led_pnt (h:IsOrd S o) (hp:Pnt (ledS S o) p'):Pnt S (ledP o p'):=fun j hj=>by
 have hm:=h.mem hj
 have:=hp (posO o (j:Int)) (by rw[ledS,List.length_map];exact posO_lt hm)
 rw[ledS_at (posO_get hm)] at this
 exact this
theorem led_back (h:IsOrd S o) (hp:Pnt S p):Pnt (ledS S o) (fun i=>p (o.getD i 0).toNat)∧∀j,j<S.length→ledP o (fun i=>p (o.getD i 0).toNat) j=p j:=by
 refine⟨fun i hi=>?_,fun j hj=>?_⟩
 ·have hi':i<o.length:=by rwa [ledS,List.length_map] at hi
  have e:o[i]? =some o[i]:=List.getElem?_eq_getElem hi'
  rw[ledS_at e]
  have hr:=h.rng _ (List.getElem_mem hi')
  have:=hp (o[i]).toNat (by omega)
  simpa [List.getD_eq_getElem?_getD,e] using this
 ·have hm:=h.mem hj
  show p (o.getD (posO o (j:Int)) 0).toNat=p j
  rw[List.getD_eq_getElem?_getD,posO_get hm]
  rfl
theorem idx_of (h:(L.map (·.1)).Nodup) (e:L=A++l::T):posO (L.map (·.1)) l.1=A.length:=by
 refine posO_nodup h ?_
 rw[e,List.map_append,List.map_cons,List.getElem?_append_right (by simp)]
 simp
theorem led_upd (h:(L.map (·.1)).Nodup) (h0:0≤l.1) (e:L=A++l::T) {c:Nat}:ledP (L.map (·.1)) (upd p' A.length c)=upd (ledP (L.map (·.1)) p') l.1.toNat c:=by
 funext j
 have h1:=idx_of h e
 unfold ledP
 by_cases hj:j=l.1.toNat
 ·rw[hj,upd_at,Int.toNat_of_nonneg h0,h1,upd_at]
 ·rw[upd_ne _ c hj,upd_ne]
  intro e2
  by_cases hm:(j:Int)∈L.map (·.1)
  ·have:=posO_get hm
   rw[e2,←h1,posO_get (by rw[e];simp)] at this
   have:=Option.some.inj this
   omega
  ·rw[posO_not hm,e] at e2
   simp at e2
theorem rowF_cut (w:Wf S L) (e:L=A++l::T) {x:Int} {c:Nat}:cutP (rowF (L.map (·.1)) (l::T) x) A.length c=rowF (L.map (·.1)) T (goR (l.2.getD x.toNat []) (c:Int)):=by
 funext p'
 have wl:Wf S (l::T):=by rw[e] at w;exact w.tail
 unfold cutP rowF
 rw[led_upd w.nodup wl.1.ge e]
 simp only[sayL]
 rw[upd_at,say_upd wl.2.2 wl.2.1 wl.1.ge]
theorem rowF_hang (w:Wf S L) (e:L=A++T) {x:Int}:Hang (ledS S (L.map (·.1))) (rowF (L.map (·.1)) T x) A.length:=fun p p' _ _ hj=>by
 refine say_off T x (fun lv hlv=>?_)
 have hn:=w.nodup
 rw[e,List.map_append] at hn
 have hnA:lv∉A.map (·.1):=fun hA=>(List.nodup_append.1 hn).2.2 _ hA _ hlv rfl
 have hge:0≤lv:=(w.ge lv (by rw[e,List.map_append];exact List.mem_append_right _ hlv)).1
 have hm:lv∈L.map (·.1):=by rw[e,List.map_append];exact List.mem_append_right _ hlv
 unfold ledP
 rw[Int.toNat_of_nonneg hge]
 refine hj _ ?_ ?_
 ·rw[e,List.map_append,posO_app hnA,List.length_map];omega
 ·rw[ledS,List.length_map];exact posO_lt hm
theorem rep_kid (h:Ok S M N) {r:Int} (a:Rep S N φ r) {i c:Nat} (hl:(i:Int)≤lvl S N r) (hi:i<S.length) (hc:(c:Int)<S.getD i 0):Rep S N (cutP φ i c) (kidR S N i r c)∧((i+1:Nat):Int)≤lvl S N (kidR S N i r c):=by
 have kh:=kidR_has (c:=c) h hi a.1 hl hc
 refine⟨⟨kh.1,fun p hp=>?_⟩,by have:=kh.2;omega⟩
 show sayR N p (kidR S N i r c)=φ (upd p i c)
 rw[←a.2 _ (hp.upd hc),kidR_say h hi a.1 (hp.upd hc),upd_at]
 exact(say_hang h _ _ (Nat.le_refl _) kh.1 (i+1) (by have:=kh.2;omega) _ _ (hp.upd hc) hp (fun j h1 _=>upd_ne p c (by omega))).symm
theorem rep_cuts (ho:IsOrd S o) (h:Ok (ledS S o) M N) {r:Int} (a:Rep (ledS S o) N (ledF o φ) r) {q:Nat→Nat} (hq:Pnt S q):∀m,m≤o.length→∃r',Rep (ledS S o) N (fun p'=>φ (mixP (o.take m) q (ledP o p'))) r'∧(m:Int)≤lvl (ledS S o) N r'
 |0,_=>⟨r,⟨a.1,fun p hp=>by show sayR N p r=φ (mixP (o.take 0) q (ledP o p));rw[List.take_zero,mix_nil];exact a.2 p hp⟩,(h.lvl_le a.1).1⟩
 |m+1,hm=>by
  obtain⟨r',a',hl⟩:=rep_cuts ho h a hq m (by omega)
  have hmo:m<o.length:=hm
  have e:o[m]? =some o[m]:=List.getElem?_eq_getElem hmo
  have hr:=ho.rng _ (List.getElem_mem hmo)
  have hc:(q (o[m]).toNat:Int)<(ledS S o).getD m 0:=by rw[ledS_at e];exact hq.at hr.1 hr.2
  obtain⟨k1,k2⟩:=rep_kid h a' hl (by rw[ledS,List.length_map];exact hmo) hc
  refine⟨_,?_,k2⟩
  have e2:(fun p'=>φ (mixP (o.take (m+1)) q (ledP o p')))=cutP (fun p'=>φ (mixP (o.take m) q (ledP o p'))) m (q (o[m]).toNat):=by
   funext p'
   show φ _=φ _
   congr 1
   funext j
   unfold mixP
   have hmem:(j:Int)∈o.take (m+1)↔(j:Int)∈o.take m∨(j:Int)=o[m]:=by
    rw[List.take_succ_eq_append_getElem hmo,List.mem_append,List.mem_singleton]
   by_cases h1:(j:Int)∈o.take m
   ·rw[if_pos (hmem.2 (.inl h1)),if_pos h1]
   ·rw[if_neg h1]
    by_cases h2:(j:Int)=o[m]
    ·rw[if_pos (hmem.2 (.inr h2))]
     unfold ledP
     rw[h2,posO_nodup ho.nod e,upd_at]
     congr 1
     omega
    ·rw[if_neg (fun h=>(hmem.1 h).elim h1 h2)]
     unfold ledP
     rw[upd_ne]
     intro e3
     by_cases hj:(j:Int)∈o
     ·have:=posO_get hj
      rw[e3,e] at this
      exact h2 (Option.some.inj this).symm
     ·rw[posO_not hj] at e3;omega
  rw[e2]
  exact k1
end
def nodesL:List Lay→Nat
 |[]=>0
 |l::T=>(l.2.filter fun r=>decide (1<r.length)).length+nodesL T
def mulL:List Lay→List (Nat×Nat)
 |[]=>[]
 |l::T=>(((List.range l.2.length).filter fun x=>decide (1<(l.2.getD x []).length)).map fun x=>(T.length,x))++mulL T
theorem filter_range {α:Type} (d:α) (P:α→Bool) (l:List α):((List.range l.length).filter fun x=>P (l.getD x d)).length=(l.filter P).length:=by
 have e:l=(List.range l.length).map (fun x=>l.getD x d):=by
  apply List.ext_getElem
  ·simp
  ·intro i h1 h2
   simp[List.getD_eq_getElem?_getD,List.getElem?_eq_getElem h1]
 conv=>rhs;rw[e]
 rw[List.filter_map,List.length_map]
 rfl
theorem mulL_length:∀L:List Lay,(mulL L).length=nodesL L
 |[]=>rfl
 |l::T=>by
  rw[mulL,nodesL,List.length_append,List.length_map,mulL_length T]
  congr 1
  exact filter_range [] (fun r=>decide (1<r.length)) l.2
theorem mulL_mem:∀ {L:List Lay} {d x:Nat},(d,x)∈mulL L→∃A l T,L=A++l::T∧T.length=d∧x<l.2.length∧1<(l.2.getD x []).length
 |[],_,_,h=>by simp[mulL] at h
 |l::T,d,x,h=>by
  rw[mulL,List.mem_append] at h
  rcases h with h|h
  ·obtain⟨y,hy,e⟩:=List.mem_map.1 h
   injection e with e1 e2
   subst e1 e2
   rw[List.mem_filter] at hy
   exact⟨[],l,T,rfl,rfl,List.mem_range.1 hy.1,of_decide_eq_true hy.2⟩
  ·obtain⟨A,l',T',e,h1,h2⟩:=mulL_mem h
   exact⟨l::A,l',T',by rw[e];rfl,h1,h2⟩
theorem mem_mulL:∀ {A:List Lay} {l:Lay} {T:List Lay} {x:Nat},x<l.2.length→1<(l.2.getD x []).length→(T.length,x)∈mulL (A++l::T)
 |[],l,T,x,h1,h2=>by
  rw[List.nil_append,mulL,List.mem_append]
  exact .inl (List.mem_map.2 ⟨x,List.mem_filter.2 ⟨List.mem_range.2 h1,decide_eq_true h2⟩,rfl⟩)
 |a::A,l,T,x,h1,h2=>by
  rw[List.cons_append,mulL,List.mem_append]
  exact .inr (mem_mulL h1 h2)
theorem mulL_lt:∀ {L:List Lay} {d x:Nat},(d,x)∈mulL L→d<L.length:=fun {L d x} h=>by
 obtain⟨A,l,T,e,h1,_⟩:=mulL_mem h
 rw[e,List.length_append,List.length_cons]
 omega
theorem mulL_nodup:∀L:List Lay,(mulL L).Nodup
 |[]=>List.nodup_nil
 |l::T=>by
  rw[mulL,List.nodup_append]
  refine⟨?_,mulL_nodup T,fun a ha b hb e=>?_⟩
  ·refine List.pairwise_map.2 ?_
   refine List.Pairwise.imp ?_ (List.Pairwise.filter _ List.nodup_range)
   intro a b h e
   injection e with _ e
   exact h e
  ·obtain⟨y,_,rfl⟩:=List.mem_map.1 ha
   subst e
   exact Nat.lt_irrefl _ (mulL_lt hb)
theorem parts_eq {α:Type} {A B:List α} {a b:α} {T U:List α} (h:A++a::T=B++b::U) (hl:T.length=U.length):A=B∧a=b∧T=U:=by
 have h1:A.length=B.length:=by
  have:=congrArg List.length h
  simp only[List.length_append,List.length_cons] at this
  omega
 obtain⟨h2,h3⟩:=List.append_inj h h1
 injection h3 with h3 h4
 exact⟨h2,h3,h4⟩
section
variable {S:List Int} {M:Int} {N:List Nd} {L A T:List Lay} {l:Lay} {F:List Phi} {R:List Int} {φ:Phi}
theorem multi_two {n:Nat} (h:LayOk S l n) {x:Int} (hx:inW (l::T) x) (hs:1≤szL S l.1) (hm:1<(l.2.getD x.toNat []).length):∃c d:Nat,(c:Int)<szL S l.1∧(d:Int)<szL S l.1∧goR (l.2.getD x.toNat []) c≠goR (l.2.getD x.toNat []) d:=by
 obtain⟨g,e,hg⟩:=h.at hx
 refine Classical.byContradiction (fun hn=>?_)
 have hc:∀j,j<(szL S l.1).toNat→g j=g 0:=fun j hj=>by
  refine Classical.byContradiction (fun hne=>hn ⟨j,0,by omega,by omega,?_⟩)
  rw[e,goR_rlN _ _ _ hj,goR_rlN _ _ _ (by omega)]
  exact hne
 rw[e,rlN_const hc (by omega)] at hm
 simp at hm
theorem low_single (w:Wf S (l::T)) {x:Int} (hx:inW (l::T) x) (hm:1<(l.2.getD x.toNat []).length):2≤x:=by
 have h0:=hx.1
 rcases (by omega:x=0∨x=1∨2≤x) with e|e|e
 ·subst e
  rw[List.getD_eq_getElem?_getD,show(0:Int).toNat=0 from rfl,w.1.r0] at hm
  simp at hm
 ·subst e
  rw[List.getD_eq_getElem?_getD,show(1:Int).toNat=1 from rfl,w.1.r1] at hm
  simp at hm
 ·exact e
def Dep (S:List Int) (φ:Phi):Prop:=∀p p':Nat→Nat,(∀j,j<S.length→p j=p' j)→φ p=φ p'
theorem Wf.dep (w:Wf S L) (x:Int):Dep S (sayL L x):=fun p p' h=>say_off L x (fun lv hlv=>by
 have:=w.ge lv hlv
 exact h _ (by omega))
theorem led_all {o:List Int} (ho:IsOrd S o) {φ ψ:Phi} (h1:Dep S φ) (h2:Dep S ψ) (h:∀p',Pnt (ledS S o) p'→φ (ledP o p')=ψ (ledP o p')):∀p,Pnt S p→φ p=ψ p:=fun p hp=>by
 obtain⟨k1,k2⟩:=led_back ho hp
 have:=h _ k1
 rwa [h1 _ p k2,h2 _ p k2] at this
theorem row_one (hS:SzOk S) (w:Wf S L) (hl:L.length=S.length) {A B T U:List Lay} {a b:Lay} (e1:L=A++a::T) (e2:L=B++b::U) {x y:Int} (hx:inW (a::T) x) (hy:inW (b::U) y) (hxm:1<(a.2.getD x.toNat []).length) (hym:1<(b.2.getD y.toNat []).length)
 (h:∀p',Pnt (ledS S (L.map (·.1))) p'→rowF (L.map (·.1)) (a::T) x p'=rowF (L.map (·.1)) (b::U) y p'):T.length=U.length∧x=y:=by
 have wa:Wf S (a::T):=by rw[e1] at w;exact w.tail
 have wb:Wf S (b::U):=by rw[e2] at w;exact w.tail
 have hs:=led_all (w.ord hl) (wa.dep x) (wb.dep y) h
 have key:∀ {A B T U:List Lay} {a b:Lay},L=A++a::T→L=B++b::U→∀ {x y:Int},inW (a::T) x→1<(a.2.getD x.toNat []).length→(∀p,Pnt S p→sayL (a::T) x p=sayL (b::U) y p)→U.length<T.length→False:=by
  intro A B T U a b e1 e2 x y hx hm hs hlt
  have wa:Wf S (a::T):=by rw[e1] at w;exact w.tail
  have hin:a.1∉(b::U).map (·.1):=by
   have:∃C,T=C++b::U:=by
    rw[e1] at e2
    rcases List.append_eq_append_iff.1 e2 with⟨C,hC,e3⟩|⟨C,hC,e3⟩
    ·cases C with
     |nil=>injection e3 with _ e3;rw[e3] at hlt;exact absurd hlt (Nat.lt_irrefl _)
     |cons c C=>injection e3 with _ e3;exact⟨C,e3⟩
    ·have:=congrArg List.length e3
     simp only[List.length_cons,List.length_append] at this
     omega
   obtain⟨C,hC⟩:=this
   intro hm
   refine wa.2.1 ?_
   rw[hC,List.map_append,List.mem_append]
   exact .inr hm
  obtain⟨c,d,hc,hd,hne⟩:=multi_two wa.1 hx (hS.at wa.1.ge wa.1.lt).1 hm
  have wb:Wf S (b::U):=by rw[e2] at w;exact w.tail
  refine hne (say_ne hS wa.2.2 (wa.go hx (by omega) hc) (wa.go hx (by omega) hd) (fun p hp=>?_))
  have h1:=hs _ (hp.upd hc)
  have h2:=hs _ (hp.upd hd)
  rw[say_upd wb hin wa.1.ge] at h1 h2
  have h3:=h1.trans h2.symm
  simp only[sayL] at h3
  rw[upd_at,upd_at,say_upd wa.2.2 wa.2.1 wa.1.ge,say_upd wa.2.2 wa.2.1 wa.1.ge] at h3
  exact h3
 rcases Nat.lt_trichotomy T.length U.length with h1|h1|h1
 ·exact(key e2 e1 hy hym (fun p hp=>(hs p hp).symm) h1).elim
 ·refine⟨h1,?_⟩
  rw[e1] at e2
  obtain⟨_,rfl,rfl⟩:=parts_eq e2 h1
  exact say_ne hS wa hx hy hs
 ·exact(key e1 e2 hx hxm hs h1).elim
def OwnN (S:List Int) (L:List Lay) (N:List Nd):Prop:=∀r,2≤r→hasR N r→∃A l T x,L=A++l::T∧inW (l::T) x∧1<(l.2.getD x.toNat []).length∧Rep (ledS S (L.map (·.1))) N (rowF (L.map (·.1)) (l::T) x) r
def FullN (S:List Int) (M:Int) (L:List Lay) (N:List Nd):Prop:=M≤(N.length:Int)∧∃A l T x,L=A++l::T∧inW (l::T) x∧1<(l.2.getD x.toNat []).length∧¬ ∃r,Rep (ledS S (L.map (·.1))) N (rowF (L.map (·.1)) (l::T) x) r
theorem rep_eq {φ ψ:Phi} {r:Int} (a:Rep S N φ r) (b:Rep S N ψ r):∀p,Pnt S p→φ p=ψ p:=fun p hp=>(a.2 p hp).symm.trans (b.2 p hp)
theorem ownN_le (h:Ok (ledS S (L.map (·.1))) M N) (o:OwnN S L N):N.length≤nodesL L:=by
 have:=pigR (R:=fun(j:Nat) (dx:Nat×Nat)=>∃A l T,L=A++l::T∧T.length=dx.1∧Rep (ledS S (L.map (·.1))) N (rowF (L.map (·.1)) (l::T) (dx.2:Int)) ((j:Int)+2)) (List.range N.length) (mulL L) List.nodup_range (fun j hj=>by
  have hj':=List.mem_range.1 hj
  obtain⟨A,l,T,x,e,h1,h2,h3⟩:=o ((j:Int)+2) (by omega) ⟨by omega,by omega⟩
  have hx0:=h1.1
  have hx1:x<(l.2.length:Int):=h1.2
  refine⟨(T.length,x.toNat),by rw[e];exact mem_mulL (by omega) h2,A,l,T,e,rfl,?_⟩
  rw[Int.toNat_of_nonneg hx0]
  exact h3) (fun i hi j hj dx h1 h2=>by
  obtain⟨A,l,T,e,g1,g2⟩:=h1
  obtain⟨A',l',T',e',g1',g2'⟩:=h2
  rw[e] at e'
  obtain⟨_,rfl,rfl⟩:=parts_eq e' (by rw[g1,g1'])
  have:=Rep.one h g2 g2'
  omega)
 rwa [List.length_range,mulL_length] at this
theorem full_lt (h:Ok (ledS S (L.map (·.1))) M N) (o:OwnN S L N) (f:FullN S M L N):M<(nodesL L:Int):=by
 obtain⟨hM,A0,l0,T0,x0,e0,f1,f2,f3⟩:=f
 have hx0:=f1.1
 have hx1:x0<(l0.2.length:Int):=f1.2
 have:=pigR (R:=fun(j:Nat) (dx:Nat×Nat)=>(j<N.length∧∃A l T,L=A++l::T∧T.length=dx.1∧Rep (ledS S (L.map (·.1))) N (rowF (L.map (·.1)) (l::T) (dx.2:Int)) ((j:Int)+2))∨(j=N.length∧dx=(T0.length,x0.toNat))) (List.range (N.length+1)) (mulL L) List.nodup_range (fun j hj=>by
  have hj':=List.mem_range.1 hj
  by_cases hjn:j<N.length
  ·obtain⟨A,l,T,x,e,h1,h2,h3⟩:=o ((j:Int)+2) (by omega) ⟨by omega,by omega⟩
   have hx0:=h1.1
   have hx1:x<(l.2.length:Int):=h1.2
   refine⟨(T.length,x.toNat),by rw[e];exact mem_mulL (by omega) h2,.inl ⟨hjn,A,l,T,e,rfl,?_⟩⟩
   rw[Int.toNat_of_nonneg hx0]
   exact h3
  ·exact⟨(T0.length,x0.toNat),by rw[e0];exact mem_mulL (by omega) f2,.inr ⟨by omega,rfl⟩⟩) (fun i hi j hj dx h1 h2=>by
  have cross:∀(i:Nat),(∃A l T,L=A++l::T∧T.length=dx.1∧Rep (ledS S (L.map (·.1))) N (rowF (L.map (·.1)) (l::T) (dx.2:Int)) ((i:Int)+2))→dx=(T0.length,x0.toNat)→False:=fun i ⟨A,l,T,e,g1,g2⟩ g3=>by
   rw[g3] at g1 g2
   rw[e] at e0
   obtain⟨_,rfl,rfl⟩:=parts_eq e0 g1
   have g4:=g2
   simp only[Int.toNat_of_nonneg hx0] at g4
   exact f3 ⟨(i:Int)+2,g4⟩
  rcases h1 with⟨_,h1⟩|⟨h1,h1'⟩<;>rcases h2 with⟨_,h2⟩|⟨h2,h2'⟩
  ·obtain⟨A,l,T,e,g1,g2⟩:=h1
   obtain⟨A',l',T',e',g1',g2'⟩:=h2
   rw[e] at e'
   obtain⟨_,rfl,rfl⟩:=parts_eq e' (by rw[g1,g1'])
   have:=Rep.one h g2 g2'
   omega
  ·exact(cross _ h1 h2').elim
  ·exact(cross _ h2 h1').elim
  ·omega)
 rw[List.length_range,mulL_length] at this
 omega
theorem all_le (hS:SzOk S) (G:GD S F R L) (h:Ok (ledS S (L.map (·.1))) M N) (hF:∀φ∈F,∃r,Rep (ledS S (L.map (·.1))) N (ledF (L.map (·.1)) φ) r):nodesL L≤N.length:=by
 have ho:=G.ord
 have:=pigR (R:=fun(dx:Nat×Nat) (j:Nat)=>∃A l T,L=A++l::T∧T.length=dx.1∧dx.2<l.2.length∧1<(l.2.getD dx.2 []).length∧Rep (ledS S (L.map (·.1))) N (rowF (L.map (·.1)) (l::T) (dx.2:Int)) ((j:Int)+2)) (mulL L) (List.range N.length) (mulL_nodup L) (fun⟨d,x⟩ hdx=>by
  obtain⟨A,l,T,e,h1,h2,h3⟩:=mulL_mem hdx
  have wl:Wf S (l::T):=by have:=G.wf;rw[e] at this;exact this.tail
  have hx:inW (l::T) (x:Int):=⟨by omega,by show(x:Int)<(l.2.length:Int);omega⟩
  have hx2:2≤(x:Int):=low_single wl hx (by rw[Int.toNat_natCast];exact h3)
  obtain⟨k,hk,q,hq,hr⟩:=G.rch A l T e (x:Int) hx2 hx.2
  obtain⟨r0,a0⟩:=hF _ (List.getElem_mem hk)
  obtain⟨r,a,_⟩:=rep_cuts ho h a0 hq A.length (by rw[e];simp)
  have ea:(L.map (·.1)).take A.length=A.map (·.1):=by rw[e,List.map_append,List.take_left' (by simp)]
  rw[ea] at a
  have a':Rep (ledS S (L.map (·.1))) N (rowF (L.map (·.1)) (l::T) (x:Int)) r:=a.alike (fun p' hp'=>(hr _ (led_pnt ho hp')).symm)
  have hr2:2≤r:=by
   rcases Int.lt_or_le r 2 with h4|h4
   ·exfalso
    have h5:=a.1.1
    refine low_const hS wl hx hx2 (z:=decide (r=1)) (fun p hp=>?_)
    refine led_all ho (wl.dep _) (ψ:=fun _=>decide (r=1)) (fun _ _ _=>rfl) (fun p' hp'=>?_) p hp
    rw[←sayR_low (N:=N) (p:=p') (by omega:¬2≤r)]
    exact(a'.2 p' hp').symm
   ·exact h4
  refine⟨(r-2).toNat,List.mem_range.2 (by have:=a.1.2;omega),A,l,T,e,h1,h2,h3,?_⟩
  rw[show(((r-2).toNat:Nat):Int)+2=r by omega]
  exact a') (fun⟨d,x⟩ _ ⟨d',x'⟩ _ j h1 h2=>by
  obtain⟨A,l,T,e,g1,g2,g3,g4⟩:=h1
  obtain⟨A',l',T',e',g1',g2',g3',g4'⟩:=h2
  simp only at g1 g1' g2 g2' g3 g3'
  obtain⟨k1,k2⟩:=row_one hS G.wf G.len e e' (x:=(x:Int)) (y:=(x':Int)) ⟨by omega,by show(x:Int)<(l.2.length:Int);omega⟩ ⟨by omega,by show(x':Int)<(l'.2.length:Int);omega⟩ (by rw[Int.toNat_natCast];exact g3) (by rw[Int.toNat_natCast];exact g3') (rep_eq g4 g4')
  rw[←g1,←g1',k1]
  congr 1
  omega)
 rwa [List.length_range,mulL_length] at this
end
def upTo (o:List Int) (T:List Lay) (row:List Rn) (k:Nat):List Phi:=(List.range k).map fun(c:Nat)=>rowF o T (goR row (c:Int))
theorem upTo_succ (o:List Int) (T:List Lay) (row:List Rn) (k:Nat):upTo o T row (k+1)=upTo o T row k++[rowF o T (goR row (k:Int))]:=by
 unfold upTo
 rw[List.range_succ,List.map_append]
 rfl
theorem upTo_add (o:List Int) (T:List Lay) (row:List Rn) (k:Nat):∀m,∃u,upTo o T row (k+m)=upTo o T row k++u
 |0=>⟨[],by simp⟩
 |m+1=>by
  obtain⟨u,hu⟩:=upTo_add o T row k m
  exact⟨u++[rowF o T (goR row ((k+m:Nat):Int))],by rw[←Nat.add_assoc,upTo_succ,hu,List.append_assoc]⟩
section
variable {S:List Int} {M:Int} {N N1:List Nd} {L A T:List Lay} {l:Lay} {o:List Int} {row:List Rn} {g:Nat→Int} {n j:Nat} {ks:List Int}
theorem cuts_rows (w:Wf S L) (e:L=A++l::T) (x:Int):cuts (ledS S (L.map (·.1))) (rowF (L.map (·.1)) (l::T) x) A.length=upTo (L.map (·.1)) T (l.2.getD x.toNat []) (szL S l.1).toNat:=by
 have hsz:(ledS S (L.map (·.1))).getD A.length 0=szL S l.1:=ledS_at (by rw[e];simp)
 unfold cuts upTo
 rw[hsz]
 exact List.map_congr_left (fun c _=>rowF_cut w e)
theorem run_goes (hr:row=rlN g n) (hj:j<row.length) {c:Nat} (h1:loR row j≤(c:Int)) (h2:(c:Int)<(row[j]).1):goR row (c:Int)=(row[j]).2:=by
 have ok:=runs_ok g n
 rw[←hr] at ok
 obtain⟨_,_,q3,q4⟩:=ok.each j hj
 rw[←q4 c h1 h2]
 conv=>lhs;rw[hr]
 exact goR_rlN g n c (by omega)
theorem run_first (hr:row=rlN g n) (hj:j<row.length) (hk:kidsF (ins S M) N (upTo o T row (loR row j).toNat)=(ks,0,N1)):kidsF (ins S M) N (upTo o T row ((loR row j).toNat+1))=if (ins S M N1 (rowF o T (row[j]).2)).2.1=0 then(ks++[(ins S M N1 (rowF o T (row[j]).2)).1],0,(ins S M N1 (rowF o T (row[j]).2)).2.2) else([],(ins S M N1 (rowF o T (row[j]).2)).2.1,(ins S M N1 (rowF o T (row[j]).2)).2.2):=by
 have ok:=runs_ok g n
 rw[←hr] at ok
 obtain⟨q1,q2,_,_⟩:=ok.each j hj
 rw[upTo_succ,kids_snoc _ _ _ _ hk,run_goes hr hj (by omega) (by omega)]
theorem run_stop (hr:row=rlN g n) (hj:j<row.length) (hk:kidsF (ins S M) N (upTo o T row (loR row j).toNat)=(ks,0,N1)) (hz:(ins S M N1 (rowF o T (row[j]).2)).2.1≠0):kidsF (ins S M) N (upTo o T row n)=([],(ins S M N1 (rowF o T (row[j]).2)).2.1,(ins S M N1 (rowF o T (row[j]).2)).2.2):=by
 have ok:=runs_ok g n
 rw[←hr] at ok
 obtain⟨q1,q2,q3,_⟩:=ok.each j hj
 have h1:=run_first hr hj hk
 rw[if_neg hz] at h1
 obtain⟨u,hu⟩:=upTo_add o T row ((loR row j).toNat+1) (n-((loR row j).toNat+1))
 rw[show(loR row j).toNat+1+(n-((loR row j).toNat+1))=n by omega] at hu
 rw[hu]
 exact kids_stop _ _ _ _ hz h1 u
theorem run_all (hr:row=rlN g n) (hj:j<row.length) (hk:kidsF (ins S M) N (upTo o T row (loR row j).toNat)=(ks,0,N1)) (hz:(ins S M N1 (rowF o T (row[j]).2)).2.1=0) (hok:Ok S M (ins S M N1 (rowF o T (row[j]).2)).2.2) (hrep:Rep S (ins S M N1 (rowF o T (row[j]).2)).2.2 (rowF o T (row[j]).2) (ins S M N1 (rowF o T (row[j]).2)).1):
 ∀m,(loR row j).toNat+(m+1)≤(row[j]).1.toNat→kidsF (ins S M) N (upTo o T row ((loR row j).toNat+(m+1)))=(ks++List.replicate (m+1) (ins S M N1 (rowF o T (row[j]).2)).1,0,(ins S M N1 (rowF o T (row[j]).2)).2.2)
 |0,_=>by
  have h1:=run_first hr hj hk
  rw[if_pos hz] at h1
  exact h1
 |m+1,hm=>by
  have ok:=runs_ok g n
  rw[←hr] at ok
  obtain⟨q1,q2,q3,_⟩:=ok.each j hj
  have ih:=run_all hr hj hk hz hok hrep m (by omega)
  rw[←Nat.add_assoc,upTo_succ,kids_snoc _ _ _ _ ih,run_goes hr hj (by omega) (by omega),ins_rep hok hrep]
  simp only[if_true]
  rw[List.append_assoc,←List.replicate_succ']
theorem run_done (hr:row=rlN g n) (hj:j<row.length) (hk:kidsF (ins S M) N (upTo o T row (loR row j).toNat)=(ks,0,N1)) (hz:(ins S M N1 (rowF o T (row[j]).2)).2.1=0) (hok:Ok S M (ins S M N1 (rowF o T (row[j]).2)).2.2) (hrep:Rep S (ins S M N1 (rowF o T (row[j]).2)).2.2 (rowF o T (row[j]).2) (ins S M N1 (rowF o T (row[j]).2)).1):
 kidsF (ins S M) N (upTo o T row (loR row (j+1)).toNat)=(ks++List.replicate ((row[j]).1.toNat-(loR row j).toNat) (ins S M N1 (rowF o T (row[j]).2)).1,0,(ins S M N1 (rowF o T (row[j]).2)).2.2):=by
 have ok:=runs_ok g n
 rw[←hr] at ok
 obtain⟨q1,q2,q3,_⟩:=ok.each j hj
 have h1:=run_all hr hj hk hz hok hrep ((row[j]).1.toNat-(loR row j).toNat-1) (by omega)
 rw[show(row[j]).1.toNat-(loR row j).toNat-1+1=(row[j]).1.toNat-(loR row j).toNat by omega,show(loR row j).toNat+((row[j]).1.toNat-(loR row j).toNat)=(row[j]).1.toNat by omega] at h1
 rw[loR_succ hj]
 exact h1
end
end Go.Proofs.Ytnddhkhmbjeefaa
namespace Go.Proofs.Ytnddhkhmbjeefaa
open Go.RowKit Go.Lib Go.Maps
section
variable {w w':World} {a x:Nat} {S:List Int} {M:Int} {N:List Nd} {m:Nat} {P Q:Nat→Prop}
theorem CA.make (h:CA w a S M N m P) (lv:Int) (ao:Option Addr) (cap:Nat) (A:List Int) (hl:A.length≤140737488351232) (hz:ZAt w ao A) (hm:m≤1152921504606846976):
 Calls Try.prog 22 #[.pointer (some ⟨a,0,none⟩),.int .i64 lv,.slice ao A.length cap] w fun e w'=>MkL S M N lv A w e w' (fun N' P' V=>CA V a S M N' (m+1) P') P:=by
 obtain⟨R,sb,sc,nv,mb,h1,rfl⟩:=h
 exact makeC_any lv ao cap A hl hz h1 hm
theorem CA.node (h:CA w a S M N m P) (f:Int):Calls Try.prog 45 #[.pointer (some ⟨a,0,none⟩),.int .i64 f] w fun e w'=>NdL N f w e w':=by
 obtain⟨R,sb,sc,nv,mb,h1,rfl⟩:=h
 exact nodeC_any f h1
theorem CA.level (h:CA w a S M N m P) (f:Int):Calls Try.prog 24 #[.pointer (some ⟨a,0,none⟩),.int .i64 f] w fun e w'=>e=.returned (.int .i64 (lvl S N f))∧w'=w:=by
 obtain⟨R,sb,sc,nv,mb,h1,rfl⟩:=h
 exact level_any f h1
theorem CA.has (h:CA w a S M N m P) (f:Int):Calls Try.prog 53 #[.pointer (some ⟨a,0,none⟩),.int .i64 f] w fun e w'=>e=.returned (.bool (hasN N.length f))∧w'=w:=by
 obtain⟨R,sb,sc,nv,mb,h1,rfl⟩:=h
 rw[List.length_map]
 exact has_any f h1
theorem CA.len (h:CA w a S M N m P):Calls Try.prog 20 #[.pointer (some ⟨a,0,none⟩)] w fun e w'=>e=.returned (.int .i64 (N.length:Int))∧w'=w:=by
 obtain⟨R,sb,sc,nv,mb,h1,rfl⟩:=h
 rw[List.length_map]
 exact len_any h1
theorem CA.sizes (h:CA w a S M N m P):Calls Try.prog 17 #[.pointer (some ⟨a,0,none⟩)] w fun e w'=>(∃g c,e=.returned (.slice (some ⟨g,0,none⟩) S.length c)∧w'.ownsRow w.heap.size 3 1 (.slice (some ⟨g,0,none⟩) S.length c) S.length (zC S)∧ZBk w' g S∧w.heap.size≤g)∧Below w.heap.size w w':=by
 obtain⟨R,sb,sc,nv,mb,h1,rfl⟩:=h
 exact sizes_any h1
end
end Go.Proofs.Ytnddhkhmbjeefaa

