/-
  The program's arena in memory; isNode, Has, Level, Len, Most by their contracts. No condition.
-/
import Derived.Maps.OwnSet
import Derived.Maps.Views
import Derived.Maps.Keyed
import Derived.Test.YtnddhkhmbjeefaaC02
import Derived.Deep.AppendLies
import Derived.StringKeys
namespace Go.Proofs.Ytnddhkhmbjeefaa
open Go.RowKit Go.Lib Go.Maps
def keyL (x:Nd):Lit:=.string (keyB x.1 x.2)
def MpAt (w:World) (b m:Nat) (A B:List Lit):Prop:=∃D:DataW Unit,w.ownsMap Try.prog 9 (plainElem Try.prog 3) b m D∧(∀kl,Maps.has D kl=true↔kl∈A∨kl∈B)∧∀i (h:i<A.length),D.atKey A[i] (.lit (.int .i64 0))=.lit (.int .i64 ((i:Int)+2))
theorem MpAt.congr {w w':World} {b m:Nat} {A B:List Lit} (h:MpAt w b m A B) (e:w'.heap[b]? =w.heap[b]?):MpAt w' b m A B:=by
 obtain⟨D,⟨es,cl,h1,h2⟩,h3⟩:=h
 exact⟨D,⟨es,cl,e.trans h1,h2⟩,h3⟩
theorem MpAt.blk {w:World} {b m:Nat} {A B:List Lit} (h:MpAt w b m A B):∃es cl,w.heap[b]? =some (.map es cl):=by
 obtain⟨D,⟨es,cl,h1,h2⟩,h3⟩:=h
 exact⟨es,cl,h1⟩
theorem MpAt.lt {w:World} {b m:Nat} {A B:List Lit} (h:MpAt w b m A B):b<w.heap.size:=by
 obtain⟨D,h1,_⟩:=h
 exact h1.lt
theorem MpAt.made (w:World):MpAt (w.alloc (.map #[] 0)) w.heap.size 0 [] []:=
 ⟨.map [],World.ownsMap_made w Try.prog 9 _,fun kl=>by simp[Maps.has_eq],fun i h=>by cases h⟩
theorem MpAt.below {w w':World} {b m:Nat} {A B:List Lit} (h:MpAt w b m A B) (x:Below w.heap.size w w'):MpAt w' b m A B:=h.congr (x.block b h.lt)
theorem MpAt.kept {F:Nat→Prop} {w w':World} {b m:Nat} {A B:List Lit} (h:MpAt w b m A B) (x:Kept F w w') (hF:¬F b):MpAt w' b m A B:=h.congr (x.block b h.lt hF)
structure ND where
 lv:Int
 ks:List Int
 kb:Nat
 kc:Nat
def ND.nd (x:ND):Nd:=(x.lv,x.ks)
def ndC (R:List ND):List Value:=R.flatMap fun x=>[.int .i64 x.lv,.slice (some ⟨x.kb,0,none⟩) x.ks.length x.kc]
theorem ndC_append (R T:List ND):ndC (R++T)=ndC R++ndC T:=by simp[ndC]
theorem ndC_take:∀(R:List ND) (n:Nat),ndC (R.take n)=(ndC R).take (n*2)
 |R,0=>by simp[ndC]
 |[],n+1=>by simp[ndC]
 |x::R,n+1=>by
  have:=ndC_take R n
  simp only[ndC,List.take_succ_cons,List.flatMap_cons] at *
  rw[this,Nat.succ_mul]
  rfl
theorem ndC_get:∀(R:List ND) (i:Nat) (h:i<R.length),(ndC R)[i*2]? =some (.int .i64 (R[i]).lv)∧(ndC R)[i*2+1]? =some (.slice (some ⟨(R[i]).kb,0,none⟩) (R[i]).ks.length (R[i]).kc)
 |x::R,0,_=>by simp[ndC]
 |x::R,i+1,h=>by
  have h':i<R.length:=by simpa using h
  have:=ndC_get R i h'
  simp only[ndC,List.flatMap_cons] at *
  rw[Nat.succ_mul]
  simpa using this
structure CAx (w:World) (a:Nat) (S:List Int) (M:Int) (R:List ND) (m:Nat) (P:Nat→Prop) (sb sc:Nat) (nv:Value) (mb:Nat):Prop where
 blk:w.heap[a]? =some (.cells #[.slice (some ⟨sb,0,none⟩) S.length sc,.int .i64 M,nv,.map (some mb)] 83 (0,0))
 sz:ZBk w sb S
 row:w.ownsRow 0 86 2 nv R.length (ndC R)
 kid:∀x∈R,ZBk w x.kb x.ks
 map:MpAt w mb m (R.map fun x=>keyL x.nd) []
 pa:P a
 ps:P sb
 pn:∀k,nv.ownBlock=some k→P k
 pm:P mb
 pk:∀x∈R,P x.kb
 plt:∀k,P k→k<w.heap.size
 ok:Ok S M (R.map ND.nd)
 m8:M≤8192
def CA (w:World) (a:Nat) (S:List Int) (M:Int) (N:List Nd) (m:Nat) (P:Nat→Prop):Prop:=∃R sb sc nv mb,CAx w a S M R m P sb sc nv mb∧R.map ND.nd=N
section
variable {w w':World} {a:Nat} {S:List Int} {M:Int} {R:List ND} {N:List Nd} {m:Nat} {P F:Nat→Prop} {sb sc mb:Nat} {nv:Value}
theorem CAx.kept (h:CAx w a S M R m P sb sc nv mb) (hk:Kept F w w') (hF:∀k,P k→¬F k):CAx w' a S M R m P sb sc nv mb:=
 ⟨(hk.block a (h.plt a h.pa) (hF a h.pa)).trans h.blk,h.sz.kept hk (hF _ h.ps),own_kept h.row hk (fun k hb=>hF k (h.pn k hb)),fun x hx=>(h.kid x hx).kept hk (hF _ (h.pk x hx)),h.map.kept hk (hF _ h.pm),h.pa,h.ps,h.pn,h.pm,h.pk,fun k hp=>Nat.lt_of_lt_of_le (h.plt k hp) hk.size,h.ok,h.m8⟩
theorem CAx.below (h:CAx w a S M R m P sb sc nv mb) (x:Below w.heap.size w w'):CAx w' a S M R m P sb sc nv mb:=h.kept (F:=fun _=>False) (Kept.of_below x) (fun _ _ h=>h)
theorem CA.kept (h:CA w a S M N m P) (hk:Kept F w w') (hF:∀k,P k→¬F k):CA w' a S M N m P:=by
 obtain⟨R,sb,sc,nv,mb,h1,h2⟩:=h
 exact⟨R,sb,sc,nv,mb,h1.kept hk hF,h2⟩
theorem CA.below (h:CA w a S M N m P) (x:Below w.heap.size w w'):CA w' a S M N m P:=h.kept (F:=fun _=>False) (Kept.of_below x) (fun _ _ h=>h)
theorem CA.ok (h:CA w a S M N m P):Ok S M N:=by
 obtain⟨R,sb,sc,nv,mb,h1,rfl⟩:=h
 exact h1.ok
theorem CA.m8 (h:CA w a S M N m P):M≤8192:=by
 obtain⟨R,sb,sc,nv,mb,h1,rfl⟩:=h
 exact h1.m8
theorem CA.plt (h:CA w a S M N m P) {k:Nat} (hk:P k):k<w.heap.size:=by
 obtain⟨R,sb,sc,nv,mb,h1,rfl⟩:=h
 exact h1.plt k hk
theorem CA.mono (h:CA w a S M N m P) {m':Nat} (hm:m≤m'):CA w a S M N m' P:=by
 obtain⟨R,sb,sc,nv,mb,h1,rfl⟩:=h
 obtain⟨D,⟨es,cl,g1,g2,g3,g4⟩,g5⟩:=h1.map
 exact⟨R,sb,sc,nv,mb,⟨h1.blk,h1.sz,h1.row,h1.kid,⟨D,⟨es,cl,g1,g2,Nat.le_trans g3 hm,g4⟩,g5⟩,h1.pa,h1.ps,h1.pn,h1.pm,h1.pk,h1.plt,h1.ok,h1.m8⟩,rfl⟩
theorem CAx.cells (h:CAx w a S M R m P sb sc nv mb):w.cell? ⟨a,0,none⟩=some (.slice (some ⟨sb,0,none⟩) S.length sc)∧w.cell? ⟨a,1,none⟩=some (.int .i64 M)∧w.cell? ⟨a,2,none⟩=some nv∧w.cell? ⟨a,3,none⟩=some (.map (some mb)):=by
 refine⟨?_,?_,?_,?_⟩<;>(rw[cell_of_row w a _ _ _ _ h.blk];rfl)
theorem CAx.few (h:CAx w a S M R m P sb sc nv mb):R.length≤8192:=by
 have h1:=h.ok.few
 have h2:=h.m8
 rw[List.length_map] at h1
 omega
theorem CAx.shape (h:CAx w a S M R m P sb sc nv mb):∃ao cap,nv=.slice ao R.length cap∧(0<R.length→∃g,ao=some ⟨g,0,none⟩):=own_shape h.row
theorem CAx.node (h:CAx w a S M R m P sb sc nv mb) {g cap n:Nat} (hv:nv=.slice (some ⟨g,0,none⟩) n cap) {i:Nat} (hi:i<R.length):w.cell? ⟨g,i*2,none⟩=some (.int .i64 (R[i]).lv)∧w.cell? ⟨g,i*2+1,none⟩=some (.slice (some ⟨(R[i]).kb,0,none⟩) (R[i]).ks.length (R[i]).kc):=by
 have hr:=h.row
 subst hv
 have hn:n=R.length:=by
  rcases hr.2 with⟨e,_⟩|⟨g',cap',cur,e,_⟩
  ·cases e
  ·injection e with _ e _
 subst hn
 obtain⟨g1,g2⟩:=ndC_get R i hi
 exact⟨(World.ownsRow.cellAt hr (i*2) (by omega)).trans g1,(World.ownsRow.cellAt hr (i*2+1) (by omega)).trans g2⟩
end
def isN (n:Nat) (f:Int):Bool:=decide (2≤f)&&decide (f<(n:Int)+2)
theorem isN_true {n:Nat} {f:Int} (h1:2≤f) (h2:f<(n:Int)+2):isN n f=true:=by simp[isN,h1,h2]
theorem isN_lo {n:Nat} {f:Int} (h1:¬2≤f):isN n f=false:=by simp[isN,h1]
theorem isN_hi {n:Nat} {f:Int} (h2:¬f<(n:Int)+2):isN n f=false:=by simp only[isN,decide_eq_false h2,Bool.and_false]
section
variable {w:World} {a:Nat} {S:List Int} {M:Int} {R:List ND} {N:List Nd} {m:Nat} {P:Nat→Prop} {sb sc mb:Nat} {nv:Value}
set_option maxRecDepth 100000 in
theorem isNode_any (f:Int) (h:CAx w a S M R m P sb sc nv mb):Calls Try.prog 50 #[.pointer (some ⟨a,0,none⟩),.int .i64 f] w fun e w'=>e=.returned (.bool (isN R.length f))∧w'=w:=by
 obtain⟨c0,c1,c2,c3⟩:=h.cells
 have hf:=h.few
 obtain⟨ao,cap,rfl,_⟩:=h.shape
 have e1:IntKind.i64.wrap (2+(R.length:Int))=(R.length:Int)+2:=by simp[IntKind.wrap,IntKind.bits,IntKind.signed];omega
 clear h
 generalize R.length=n at *
 by_cases h1:2≤f
 ·by_cases h2:f<(n:Int)+2
  ·rw[isN_true h1 h2]
   go_enter Try.func50,Try.ntmps50
   go_wp2
   go_ret
   exact⟨rfl,rfl⟩
  ·rw[isN_hi h2]
   go_enter Try.func50,Try.ntmps50
   go_wp2
   go_ret
   exact⟨rfl,rfl⟩
 ·rw[isN_lo h1]
  go_enter Try.func50,Try.ntmps50
  go_wp2
  go_ret
  exact⟨rfl,rfl⟩
def hasN (n:Nat) (f:Int):Bool:=decide (0≤f)&&decide (f<(n:Int)+2)
set_option maxRecDepth 100000 in
theorem has_any (f:Int) (h:CAx w a S M R m P sb sc nv mb):Calls Try.prog 53 #[.pointer (some ⟨a,0,none⟩),.int .i64 f] w fun e w'=>e=.returned (.bool (hasN R.length f))∧w'=w:=by
 have HN:=hide (isNode_any f h)
 clear h
 generalize R.length=n at *
 by_cases h0:0≤f
 ·by_cases h1:f<2
  ·rw[show hasN n f=true by simp only[hasN,decide_eq_true h0,Bool.true_and];exact decide_eq_true (by omega)]
   clear HN
   go_enter Try.func53,Try.ntmps53
   go_wp2
   go_ret
   exact⟨rfl,rfl⟩
  ·have HE:Hid (hasN n f=isN n f):=by unfold Hid;simp only[hasN,isN,decide_eq_true h0,decide_eq_true (show 2≤f by omega)]
   go_enter Try.func53,Try.ntmps53
   go_wp2_with (go_at_call 50;refine HN.out.mono ?_;rintro e w1 ⟨rfl,hw1⟩;subst hw1)
   go_ret
   exact⟨by rw[HE.out];rfl,rfl⟩
 ·have HE:Hid (hasN n f=isN n f):=by unfold Hid;rw[isN_lo (by omega)];simp only[hasN,decide_eq_false h0,Bool.false_and]
  go_enter Try.func53,Try.ntmps53
  go_wp2_with (go_at_call 50;refine HN.out.mono ?_;rintro e w1 ⟨rfl,hw1⟩;subst hw1)
  go_ret
  exact⟨by rw[HE.out];rfl,rfl⟩
theorem lvl_node {f:Int} (h1:2≤f) (h2:f<(R.length:Int)+2):∃i,∃h:i<R.length,f=(i:Int)+2∧lvl S (R.map ND.nd) f=(R[i]).lv:=by
 refine⟨(f-2).toNat,by omega,by omega,?_⟩
 unfold lvl
 rw[List.length_map,if_pos ⟨h1,h2⟩]
 simp[List.getD_eq_getElem?_getD,show(f-2).toNat<R.length by omega,ND.nd]
theorem lvl_none {f:Int} (h:¬(2≤f∧f<(R.length:Int)+2)):lvl S (R.map ND.nd) f=(S.length:Int):=by
 unfold lvl
 rw[List.length_map,if_neg h]
set_option maxRecDepth 100000 in
theorem level_any (f:Int) (h:CAx w a S M R m P sb sc nv mb):Calls Try.prog 24 #[.pointer (some ⟨a,0,none⟩),.int .i64 f] w fun e w'=>e=.returned (.int .i64 (lvl S (R.map ND.nd) f))∧w'=w:=by
 have HN:=isNode_any f h
 by_cases hc:2≤f∧f<(R.length:Int)+2
 ·obtain⟨i,hi,rfl,e⟩:=lvl_node (S:=S) hc.1 hc.2
  rw[e]
  rw[isN_true hc.1 hc.2] at HN
  have HN':=hide HN
  clear HN e hc
  obtain⟨c0,c1,c2,c3⟩:=h.cells
  have hfw:=h.few
  obtain⟨ao,cap,hv,hp⟩:=h.shape
  obtain⟨g,rfl⟩:=hp (by omega)
  subst hv
  obtain⟨d0,d1⟩:=h.node rfl hi
  have e1:IntKind.i64.wrap ((i:Int)+2-2)=(i:Int):=by simp[IntKind.wrap,IntKind.bits,IntKind.signed];omega
  have hi':(i:Int)<(R.length:Int):=by omega
  clear h hp d1
  generalize (R[i]).lv=lv at *
  generalize R.length=n at *
  go_enter Try.func24,Try.ntmps24
  go_wp2_with (go_at_call 50;refine HN'.out.mono ?_;rintro e w1 ⟨rfl,hw1⟩;subst hw1)
  go_ret
  exact⟨rfl,rfl⟩
 ·rw[lvl_none hc]
  have e0:isN R.length f=false:=by
   by_cases h1:2≤f
   ·exact isN_hi (fun h2=>hc ⟨h1,h2⟩)
   ·exact isN_lo h1
  rw[e0] at HN
  have HN':=hide HN
  clear HN e0 hc
  obtain⟨c0,c1,c2,c3⟩:=h.cells
  clear h
  go_enter Try.func24,Try.ntmps24
  go_wp2_with (go_at_call 50;refine HN'.out.mono ?_;rintro e w1 ⟨rfl,hw1⟩;subst hw1)
  go_ret
  exact⟨rfl,rfl⟩
set_option maxRecDepth 100000 in
theorem len_any (h:CAx w a S M R m P sb sc nv mb):Calls Try.prog 20 #[.pointer (some ⟨a,0,none⟩)] w fun e w'=>e=.returned (.int .i64 (R.length:Int))∧w'=w:=by
 obtain⟨c0,c1,c2,c3⟩:=h.cells
 obtain⟨ao,cap,rfl,_⟩:=h.shape
 clear h
 go_enter Try.func20,Try.ntmps20
 go_wp2
 go_ret
 exact⟨rfl,rfl⟩
end
set_option maxRecDepth 100000 in
set_option maxHeartbeats 1000000 in
theorem new_any (ao:Option Addr) (cap:Nat) (A:List Int) (M:Int) (w:World) (hl:A.length≤140737488351232) (hz:ZAt w ao A):
 Calls Try.prog 21 #[.slice ao A.length cap,.int .i64 M] w fun e w'=>((SzOk A∧0≤M∧M≤8192∧∃a P,e=.returned (.tuple #[.pointer (some ⟨a,0,none⟩),.int .i64 0])∧CA w' a A M [] 0 P∧∀k,P k→w.heap.size≤k)∨(¬(SzOk A∧0≤M∧M≤8192)∧e=.returned (.tuple #[.pointer none,.int .i64 1])))∧Below w.heap.size w w':=by
 have HS:=hide (areSizes_any ao cap A w hl hz)
 by_cases hs:SzOk A
 ·have hsb:=(SzB_iff A).2 hs
  rw[hsb] at HS
  by_cases h0:M<0
  ·have HD:Hid (¬(SzOk A∧0≤M∧M≤8192)):=fun h=>by have:=h.2.1;omega
   clear hs hsb hz
   go_enter Try.func21,Try.ntmps21
   go_wp2_with (go_at_call 46;refine HS.out.mono ?_;rintro e w1 ⟨rfl,x1⟩;have X1:=hide x1;clear x1)
   go_ret2
   exact⟨.inr ⟨HD.out,rfl⟩,X1.out⟩
  by_cases h1:8192<M
  ·have HD:Hid (¬(SzOk A∧0≤M∧M≤8192)):=fun h=>by have:=h.2.2;omega
   clear hs hsb hz
   go_enter Try.func21,Try.ntmps21
   go_wp2_with (go_at_call 46;refine HS.out.mono ?_;rintro e w1 ⟨rfl,x1⟩;have X1:=hide x1;clear x1)
   go_ret2
   exact⟨.inr ⟨HD.out,rfl⟩,X1.out⟩
  have hA0:=hs.ge
  have hA1:=hs.le
  have hg:=hz.get (i:=0) (by omega)
  obtain⟨b,off,rfl,_,_⟩:=hg
  have HC:Hid (∀W,Below w.heap.size w W→_):=fun W (x:Below w.heap.size w W)=>clone_any ⟨b,off,none⟩ cap A W (by omega) (by omega) (hz.below x)
  have hmm:∀W:World,(Instr.makeMap 81 none).run Try.prog W=.ok (.map (some W.heap.size)) (W.alloc (.map #[] 0)):=fun W=>rfl
  have HSZ:=hide hs
  clear hs hsb hz hA0 hA1
  go_enter Try.func21,Try.ntmps21
  go_wp2_with (first
   |(go_at_call 46;refine HS.out.mono ?_;rintro e w1 ⟨rfl,x1⟩;have X1:=hide x1;clear x1)
   |(go_at_call 42;refine(HC.out _ X1.out).mono ?_;rintro e w2 ⟨⟨g,c,rfl,_,z2,l2⟩,x2⟩;have Z2:=hide z2;have L2:=hide (Nat.le_trans X1.out.size l2);have X2:=hide (bt X1.out x2 (Nat.le_refl _));clear z2 l2 x2))
  go_ret2
  have y1:Below w2.heap.size w2 (w2.alloc (.map #[] 0)):=al (Below.refl _ _) _
  have y2:Below (w2.alloc (.map #[] 0)).heap.size (w2.alloc (.map #[] 0)) ((w2.alloc (.map #[] 0)).alloc (.cells #[.slice (some ⟨g,0,none⟩) A.length c,.int .i64 M,.slice none 0 0,.map (some w2.heap.size)] 83)):=al (Below.refl _ _) _
  have e2:(w2.alloc (.map #[] 0)).heap.size=w2.heap.size+1:=by simp
  have hb0:=heap_alloc_new (w2.alloc (.map #[] 0)) (.cells #[.slice (some ⟨g,0,none⟩) A.length c,.int .i64 M,.slice none 0 0,.map (some w2.heap.size)] 83)
  have hsz2:=X2.out.size
  have hgl:=Z2.out.lt
  rw[e2] at hb0
  refine⟨.inl ⟨HSZ.out,by omega,by omega,w2.heap.size+1,fun k=>k=w2.heap.size+1∨k=g∨k=w2.heap.size,by simp,⟨[],g,c,.slice none 0 0,w2.heap.size,⟨hb0,(Z2.out.below y1).below y2,World.ownsRow_nil _ _ _ _,fun x h=>by simp at h,(MpAt.made w2).below y2,.inl rfl,.inr (.inl rfl),fun k h=>by simp[Value.ownBlock] at h,.inr (.inr rfl),fun x h=>by simp at h,fun k hk=>?_,Ok.nil HSZ.out (by omega) (by omega),by omega⟩,rfl⟩,fun k hk=>?_⟩,bt (bt X2.out y1 (Nat.le_refl _)) y2 (Nat.le_refl _)⟩
  ·have:((w2.alloc (.map #[] 0)).alloc (.cells #[.slice (some ⟨g,0,none⟩) A.length c,.int .i64 M,.slice none 0 0,.map (some w2.heap.size)] 83)).heap.size=w2.heap.size+2:=by simp
   omega
  ·have:=L2.out
   omega
 ·have hsb:=SzB_false hs
  rw[hsb] at HS
  have HD:Hid (¬(SzOk A∧0≤M∧M≤8192)):=fun h=>hs h.1
  clear hs hsb hz
  go_enter Try.func21,Try.ntmps21
  go_wp2_with (go_at_call 46;refine HS.out.mono ?_;rintro e w1 ⟨rfl,x1⟩;have X1:=hide x1;clear x1)
  go_ret2
  exact⟨.inr ⟨HD.out,rfl⟩,X1.out⟩
section
variable {w:World} {a:Nat} {S:List Int} {M:Int} {R:List ND} {N:List Nd} {m:Nat} {P:Nat→Prop} {sb sc mb:Nat} {nv:Value}
set_option maxRecDepth 100000 in
theorem sizes_any (h:CAx w a S M R m P sb sc nv mb):Calls Try.prog 17 #[.pointer (some ⟨a,0,none⟩)] w fun e w'=>(∃g c,e=.returned (.slice (some ⟨g,0,none⟩) S.length c)∧w'.ownsRow w.heap.size 3 1 (.slice (some ⟨g,0,none⟩) S.length c) S.length (zC S)∧ZBk w' g S∧w.heap.size≤g)∧Below w.heap.size w w':=by
 obtain⟨c0,c1,c2,c3⟩:=h.cells
 have h1:=h.ok.sz.ge
 have h2:=h.ok.sz.le
 have HC:=hide (clone_any ⟨sb,0,none⟩ sc S w (by omega) (by omega) h.sz.at)
 clear h
 go_enter Try.func17,Try.ntmps17
 go_wp2_with (go_at_call 42;refine HC.out.mono ?_;rintro e w2 ⟨⟨g,c,rfl,o2,z2,l2⟩,x2⟩;have Z2:=hide z2;have O2:=hide o2;have L2:=hide l2;have X2:=hide x2;clear o2 z2 l2 x2)
 go_ret
 exact⟨⟨g,c,rfl,O2.out,Z2.out,L2.out⟩,X2.out⟩
def TellB (p:Prop) (e:Ending):Prop:=∃b:Bool,e=.returned (.bool b)∧(b=true↔p)
theorem TellB.yes {p:Prop} (h:p):TellB p (.returned (.bool true)):=⟨true,rfl,by simp[h]⟩
theorem TellB.no {p:Prop} (h:¬p):TellB p (.returned (.bool false)):=⟨false,rfl,by simp[h]⟩
theorem hasN_iff {n:Nat} {f:Int} (N:List Nd) (hn:N.length=n):hasN n f=true↔hasR N f:=by
 unfold hasN hasR
 rw[hn]
 simp
set_option maxRecDepth 100000 in
set_option maxHeartbeats 2000000 in
theorem mayStand_any (lv:Int) (ao:Option Addr) (cap:Nat) (A:List Int) (hl:A.length≤140737488351232) (hz:ZAt w ao A) (h:CAx w a S M R m P sb sc nv mb):
 Calls Try.prog 47 #[.pointer (some ⟨a,0,none⟩),.int .i64 lv,.slice ao A.length cap] w fun e w'=>TellB (May S (R.map ND.nd) lv A) e∧Below w.heap.size w w':=by
 obtain⟨c0,c1,c2,c3⟩:=h.cells
 have HH:=hide h
 have HZ:=hide hz
 have hS1:=h.ok.sz.le
 by_cases h0:lv<0
 ·have HD:Hid (¬May S (R.map ND.nd) lv A):=fun h=>by have:=h.ge;omega
  clear h hz
  go_enter Try.func47,Try.ntmps47
  go_wp2
  go_ret
  exact⟨TellB.no HD.out,Below.refl _ _⟩
 by_cases h1:(S.length:Int)≤lv
 ·have HD:Hid (¬May S (R.map ND.nd) lv A):=fun h=>by have:=h.lt;omega
  clear h hz
  go_enter Try.func47,Try.ntmps47
  go_wp2
  go_ret
  exact⟨TellB.no HD.out,Below.refl _ _⟩
 obtain⟨l,rfl⟩:∃l:Nat,lv=l:=⟨lv.toNat,by omega⟩
 have hl1:l<S.length:=by omega
 have hl0:¬(l:Int)<0:=by omega
 have hl2:(l:Int)<(S.length:Int):=by omega
 have d0:=h.sz.cell hl1
 clear h hz h0 h1
 by_cases h2:(A.length:Int)=S.getD l 0
 ·have h2':((A.length:Int)!=S.getD l 0)=false:=by rw[h2];simp
  have HL:=hide h2
  clear h2
  generalize hs:S.getD l 0=s at *
  go_enter Try.func47,Try.ntmps47
  go_wp2
  go_loopw [34] (fun x wr=>∃k:Nat,k≤A.length∧x=.int .i64 k∧Hid (∀i,i<k→hasR (R.map ND.nd) (A.getD i 0)∧(l:Int)<lvl S (R.map ND.nd) (A.getD i 0))∧Hid (Below w.heap.size w wr)) (fun x _=>A.length-(RowKit.intOf x).toNat)
  case atStart=>exact⟨0,Nat.zero_le _,rfl,fun i h=>by omega,Below.refl _ _⟩
  case round=>
   obtain⟨k,hk,rfl,HE,HQ⟩:=hrel
   by_cases hlt:k<A.length
   ·have hlt':(k:Int)<A.length:=by omega
    obtain⟨b1,o1,rfl,hb1,g1⟩:=HZ.out.get hlt
    have q1:=(HQ.out.cell (p:=⟨b1,o1+k,none⟩) hb1).trans g1
    clear g1
    have HM:Hid (A.getD k 0∈A):=getD_mem hlt
    have HE2:Hid (hasR (R.map ND.nd) (A.getD k 0)→(l:Int)<lvl S (R.map ND.nd) (A.getD k 0)→∀i,i<k+1→hasR (R.map ND.nd) (A.getD i 0)∧(l:Int)<lvl S (R.map ND.nd) (A.getD i 0)):=fun p q i hi=>by
     rcases Nat.lt_or_ge i k with h|h
     ·exact HE.out i h
     ·obtain rfl:i=k:=by omega
      exact⟨p,q⟩
    clear HE
    generalize A.getD k 0=x at *
    have HA:=hide (has_any x (HH.out.below HQ.out))
    have HLv:=hide (level_any x (HH.out.below HQ.out))
    have HI:=hide (hasN_iff (f:=x) (R.map ND.nd) (n:=R.length) (by simp))
    cases hb:hasN R.length x
    ·rw[hb] at HA
     have HD:Hid (¬May S (R.map ND.nd) (l:Int) A):=fun h=>by
      have:=(h.kid x HM.out).1
      rw[←HI.out,hb] at this
      cases this
     clear hb HLv
     go_wp2_with (go_at_call 53;refine HA.out.mono ?_;rintro e w1 ⟨rfl,hw1⟩;have hw2:=hw1.symm;clear hw1;subst hw2)
     go_ret
     exact⟨TellB.no HD.out,HQ.out⟩
    ·rw[hb] at HA
     have HR:Hid (hasR (R.map ND.nd) x):=HI.out.1 hb
     clear hb
     by_cases hv:(l:Int)<lvl S (R.map ND.nd) x
     ·have HE3:=hide (HE2.out HR.out hv)
      have hv':¬lvl S (R.map ND.nd) x≤(l:Int):=by omega
      clear HE2
      generalize lvl S (R.map ND.nd) x=y at *
      go_wp2_with (first
       |(go_at_call 53;refine HA.out.mono ?_;rintro e w1 ⟨rfl,hw1⟩;have hw2:=hw1.symm;clear hw1;subst hw2)
       |(go_at_call 24;refine HLv.out.mono ?_;rintro e w1 ⟨rfl,hw1⟩;have hw2:=hw1.symm;clear hw1;subst hw2))
      go_roundw
      case rel=>exact⟨k+1,by omega,by go_num,HE3,HQ⟩
      case measure=>simp[RowKit.intOf];omega
     ·have HD:Hid (¬May S (R.map ND.nd) (l:Int) A):=fun h=>hv (h.kid x HM.out).2
      have hv':lvl S (R.map ND.nd) x≤(l:Int):=by omega
      clear HE2
      generalize lvl S (R.map ND.nd) x=y at *
      go_wp2_with (first
       |(go_at_call 53;refine HA.out.mono ?_;rintro e w1 ⟨rfl,hw1⟩;have hw2:=hw1.symm;clear hw1;subst hw2)
       |(go_at_call 24;refine HLv.out.mono ?_;rintro e w1 ⟨rfl,hw1⟩;have hw2:=hw1.symm;clear hw1;subst hw2))
      go_ret
      exact⟨TellB.no HD.out,HQ.out⟩
   ·have hlt':¬(k:Int)<A.length:=by omega
    have HD:Hid (May S (R.map ND.nd) (l:Int) A):=⟨by omega,by omega,by rw[Int.toNat_natCast,hs];exact HL.out,all_of_getD (fun i hi=>HE.out i (by omega))⟩
    go_wp2
    go_ret
    exact⟨TellB.yes HD.out,HQ.out⟩
 ·have h2':((A.length:Int)!=S.getD l 0)=true:=by simpa using h2
  have HD:Hid (¬May S (R.map ND.nd) (l:Int) A):=fun h=>h2 (by have:=h.len;rw[Int.toNat_natCast] at this;exact this)
  clear h2
  generalize S.getD l 0=s at *
  go_enter Try.func47,Try.ntmps47
  go_wp2
  go_ret
  exact⟨TellB.no HD.out,Below.refl _ _⟩
end
theorem Try.info47:(Try.prog.info? 86).map (fun i=>(i.zero,i.size,i.bytes))=some (some (.agg #[.int .i64 0,.slice none 0 0]),2,32):=by kernel_rfl
theorem block_setCell {w:World} {b:Nat} {cs:Array Value} {t:TypeId} {fr:Nat×Nat} (h:w.heap[b]? =some (.cells cs t fr)) (j:Nat) (u:Value):(w.setCell ⟨b,j,none⟩ u).heap[b]? =some (.cells (cs.set! j u) t fr):=by
 have hlt:=lt_of_block h
 have h':w.heap[b]=.cells cs t fr:=by simpa [Array.getElem?_eq_getElem hlt] using h
 show(w.heap.modify b _)[b]? =_
 rw[Array.getElem?_eq_getElem (by simpa using hlt),Array.getElem_modify_self,h']
 rfl
theorem ZBk.ne {w:World} {b b':Nat} {L:List Int} {cs:Array Value} {T:TypeId} {f:Nat×Nat} (h:ZBk w b L) (h':w.heap[b']? =some (.cells cs T f)) (hT:T≠3):b≠b':=fun e=>by
 obtain⟨cs',h1,_⟩:=h
 subst e
 rw[h1] at h'
 simp at h'
 exact hT h'.2.1.symm
theorem ZBk.ne_map {w:World} {b b':Nat} {L:List Int} {es:_} {cl:_} (h:ZBk w b L) (h':w.heap[b']? =some (.map es cl)):b≠b':=fun e=>by
 obtain⟨cs',h1,_⟩:=h
 subst e
 rw[h1] at h'
 cases h'
theorem keyOf_node (lv:Int) (A:List Int) (h:A.length≤256):keyOf Try.prog 9 (.string ⟨(keyB lv A).toArray⟩)=some (keyL (lv,A)):=by
 have:=WideMaps.keyOf_string_mk (P:=Try.prog) (k:=9) Try.underlying9 (s:=⟨(keyB lv A).toArray⟩) (by
  have:=keyB_length lv A
  simp only[ByteArray.size,List.size_toArray]
  unfold maxLen;omega)
 rw[this]
 simp[keyL]
theorem keyL_key (x:Nd):WideAt.IsKeyLit (keyL x):=by unfold keyL;trivial
theorem MpAt.hit {D:DataW Unit} {A:List Lit} (h:∀i (h:i<A.length),D.atKey A[i] (.lit (.int .i64 0))=.lit (.int .i64 ((i:Int)+2))) {kl:Lit} {c:Int} (hc:D.atKey kl (.lit (.int .i64 0))=.lit (.int .i64 c)) (hm:kl∈A):∃i,∃h:i<A.length,A[i]=kl∧c=(i:Int)+2:=by
 obtain⟨i,hi,e⟩:=List.mem_iff_getElem.1 hm
 refine⟨i,hi,e,?_⟩
 have:=h i hi
 rw[e,hc] at this
 injection this with this
 injection this with _ this
theorem MpAt.put {w':World} {b m:Nat} {A:List Lit} {kl:Lit} {D:DataW Unit} (hk:WideAt.IsKeyLit kl) (hn:kl∉A) (hm:IsMap D) (hh:∀kl,Maps.has D kl=true↔kl∈A∨kl∈([]:List Lit)) (ha:∀i (h:i<A.length),D.atKey A[i] (.lit (.int .i64 0))=.lit (.int .i64 ((i:Int)+2)))
 (h1:w'.ownsMap Try.prog 9 (plainElem Try.prog 3) b (m+1) (D.put kl (.lit (.int .i64 ((A.length:Int)+2))))):MpAt w' b (m+1) (A++[kl]) []:=by
 refine⟨_,h1,fun x=>?_,fun i hi=>?_⟩
 ·by_cases hx:x=kl
  ·subst hx
   rw[Maps.has_put_same hm hk]
   simp
  ·rw[Maps.has_put_other hx,hh x]
   simp[hx]
 ·by_cases hi2:i<A.length
  ·rw[List.getElem_append_left hi2,Maps.atKey_put_other (fun e=>hn (by rw[←e];exact List.getElem_mem hi2))]
   exact ha i hi2
  ·have:i=A.length:=by rw[List.length_append,List.length_singleton] at hi;omega
   subst this
   rw[List.getElem_append_right (Nat.le_refl _)]
   simp only[Nat.sub_self,List.getElem_cons_zero]
   exact Maps.atKey_put_same hm hk _ _
theorem own_ne_map {w:World} {b m:Nat} {A B:List Lit} {base size n:Nat} {e:TypeId} {v:Value} {xs:List Value} (h:MpAt w b m A B) (ho:w.ownsRow base e size v n xs):¬v.ownBlock=some b:=fun hf=>by
 obtain⟨es,cl,h1⟩:=h.blk
 obtain⟨cs,h2⟩:=own_ty ho b hf
 rw[h1] at h2
 cases h2
section
variable {w:World} {a:Nat} {S:List Int} {M:Int} {R:List ND} {N:List Nd} {m:Nat} {P:Nat→Prop} {sb sc mb:Nat} {nv:Value}
theorem CAx.add (h:CAx w a S M R m P sb sc nv mb) {w3 w4 w6:World} (x3:Below w.heap.size w w3) {lv:Int} {A:List Int} {g c:Nat} (z:ZBk w3 g A) (hg:w.heap.size≤g)
 (h1:May S (R.map ND.nd) lv A) (h2:¬One A) (h3:(lv,A)∉R.map ND.nd) (hf:((R.map ND.nd).length:Int)<M) {nv':Value} (h4:w4.ownsRow 0 86 2 nv' (R.length+1) (ndC R++[.int .i64 lv,.slice (some ⟨g,0,none⟩) A.length c])) (g4:w3.grownBy w4 nv.ownBlock)
 (l4:∀k,nv'.ownBlock=some k→nv.ownBlock=some k∨w3.heap.size≤k) (h6:MpAt w6 mb (m+1) ((R.map fun x=>keyL x.nd)++[keyL (lv,A)]) []) (t6:(w4.setCell ⟨a,2,none⟩ nv').mapTurned w6 mb):
 ∃P',CA w6 a S M (R.map ND.nd++[(lv,A)]) (m+1) P'∧Kept P w w6∧∀k,P' k→P k∨w.heap.size≤k:=by
 have H3:=h.below x3
 have k34:Kept (fun k=>nv.ownBlock=some k) w3 w4:=kept_of_grown g4
 have k45:Kept (fun k=>k=a) w4 (w4.setCell ⟨a,2,none⟩ nv'):=Kept.setCell (F:=fun k=>k=a) (p:=⟨a,2,none⟩) (Kept.refl _ _) rfl _
 have k56:Kept (fun k=>k=mb) (w4.setCell ⟨a,2,none⟩ nv') w6:=(kept_of_grown t6.grown).mono (fun b hb=>by injection hb with hb;exact hb.symm)
 have kk:Kept (fun k=>nv.ownBlock=some k∨k=a∨k=mb) w3 w6:=((k34.mono (fun _ h=>.inl h)).trans (k45.mono (fun _ h=>.inr (.inl h)))).trans (k56.mono (fun _ h=>.inr (.inr h)))
 obtain⟨es,cl,hmb⟩:=H3.map.blk
 have zk:∀ {b:Nat} {L:List Int},ZBk w3 b L→ZBk w6 b L:=fun hz=>hz.kept kk (fun hF=>by
  rcases hF with hF|hF|hF
  ·obtain⟨cs,h5⟩:=own_ty H3.row _ hF
   exact hz.ne h5 (by decide) rfl
  ·exact hz.ne H3.blk (by decide) hF
  ·exact hz.ne_map hmb hF)
 have ha4:¬nv.ownBlock=some a:=fun hF=>by
  obtain⟨cs,h5⟩:=own_ty H3.row _ hF
  rw[H3.blk] at h5
  simp at h5
 have hb4:=(k34.block a (lt_of_block H3.blk) ha4).trans H3.blk
 have ham:a≠mb:=fun e=>by subst e;rw[H3.blk] at hmb;cases hmb
 have hb5:(w4.setCell ⟨a,2,none⟩ nv').heap[a]? =some (.cells #[.slice (some ⟨sb,0,none⟩) S.length sc,.int .i64 M,nv',.map (some mb)] 83 (0,0)):=by
  have:=block_setCell hb4 2 nv'
  simpa using this
 have hb6:=(k56.block a (lt_of_block hb5) ham).trans hb5
 have row6:w6.ownsRow 0 86 2 nv' (R.length+1) (ndC (R++[⟨lv,A,g,c⟩])):=by
  rw[ndC_append]
  refine own_kept (own_kept h4 k45 (fun k hk e=>?_)) k56 (fun k hk e=>?_)
  ·subst e
   obtain⟨cs,h5⟩:=own_ty h4 _ hk
   rw[hb4] at h5
   simp at h5
  ·subst e
   rcases l4 _ hk with h5|h5
   ·exact own_ne_map H3.map H3.row h5
   ·have:=H3.map.lt
    omega
 have hsz:=kk.size
 refine⟨fun k=>k<w6.heap.size∧(P k∨w.heap.size≤k),⟨R++[⟨lv,A,g,c⟩],sb,sc,nv',mb,⟨hb6,zk H3.sz,by rw[List.length_append];exact row6,fun x hx=>?_,by rw[List.map_append];exact h6,?_,?_,fun k hk=>?_,?_,fun x hx=>?_,fun k hk=>hk.1,by rw[List.map_append];exact h.ok.add h1 h2 h3 hf,h.m8⟩,by rw[List.map_append];rfl⟩,?_,fun k hk=>hk.2⟩
 ·rcases List.mem_append.1 hx with hx|hx
  ·exact zk (H3.kid x hx)
  ·obtain rfl:=List.mem_singleton.1 hx
   exact zk z
 ·exact⟨by have:=H3.plt a h.pa;omega,.inl h.pa⟩
 ·exact⟨by have:=H3.plt sb h.ps;omega,.inl h.ps⟩
 ·refine⟨(World.ownsRow.lt row6 k hk).2,?_⟩
  rcases l4 k hk with h5|h5
  ·exact .inl (h.pn k h5)
  ·exact .inr (Nat.le_trans x3.size h5)
 ·exact⟨by have:=H3.plt mb h.pm;omega,.inl h.pm⟩
 ·rcases List.mem_append.1 hx with hx|hx
  ·exact⟨by have:=H3.plt _ (h.pk x hx);omega,.inl (h.pk x hx)⟩
  ·obtain rfl:=List.mem_singleton.1 hx
   exact⟨by have:=z.lt;show g<_;omega,.inr hg⟩
 ·refine(Kept.of_below x3).trans (kk.mono (fun k hk=>?_))
  rcases hk with hk|hk|hk
  ·exact h.pn k hk
  ·rw[hk];exact h.pa
  ·rw[hk];exact h.pm
end
end Go.Proofs.Ytnddhkhmbjeefaa

