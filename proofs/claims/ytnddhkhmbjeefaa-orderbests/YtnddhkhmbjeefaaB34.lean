/-
  Two lists of numbers, of which one grows; orders out of numbers. No condition.
-/
import Derived.Maps.AppendAt
import Derived.Test.YtnddhkhmbjeefaaB33
import Derived.Test.YtnddhkhmbjeefaaB27
import Derived.Test.YtnddhkhmbjeefaaB05
namespace Go.Proofs.Ytnddhkhmbjeefaa
open Go.RowKit Go.Lib Go.Maps
structure PmI (w0 w:World) (v1:Value) (L1:List Int) (v2:Value) (L2:List Int):Prop where
 bel:Below w0.heap.size w0 w
 r1:w.ownsRow w0.heap.size 3 1 v1 L1.length (zC L1)
 r2:w.ownsRow w0.heap.size 3 1 v2 L2.length (zC L2)
 n12:∀j,v1.ownBlock=some j→v2.ownBlock≠some j
section
variable {w0 w w':World} {v1 v2:Value} {L1 L2:List Int}
theorem PmI.below (h:PmI w0 w v1 L1 v2 L2) (y:Below w.heap.size w w'):PmI w0 w' v1 L1 v2 L2:=⟨bt h.bel y (Nat.le_refl _),own_below h.r1 y,own_below h.r2 y,h.n12⟩
theorem PmI.push {xW:World} {x:Int} {g cap:Nat} (h:PmI w0 w v1 L1 v2 L2) (y:Below w.heap.size w xW) (O:w'.ownsRow w0.heap.size 3 1 (.slice (some ⟨g,0,none⟩) (L2.length+1) cap) (L2.length+1) (zC L2++[.int .i64 x])) (G:xW.grownBy w' v2.ownBlock) (hg:v2.ownBlock=some g∨g=xW.heap.size):
 PmI w0 w' v1 L1 (.slice (some ⟨g,0,none⟩) (L2++[x]).length cap) (L2++[x]):=by
 have hx:=h.below y
 have k:Kept (fun j=>v2.ownBlock=some j) xW w':=(Kept.refl _ xW).grown G (fun _ e=>e)
 have hl:(L2++[x]).length=L2.length+1:=by simp
 refine⟨hx.bel.trans (k.below hx.bel.size (fun j hj=>(own_low hx.r2 hj).1)),own_kept hx.r1 k (fun j hj e=>hx.n12 j hj e),?_,fun j hj e=>?_⟩
 ·rw[hl,show zC (L2++[x])=zC L2++[.int .i64 x] by simp[zC]]
  exact O
 ·have:g=j:=by simpa [Value.ownBlock] using e
  subst this
  rcases hg with e|e
  ·exact hx.n12 _ hj e
  ·have:=(own_low hx.r1 hj).2
   omega
end
structure PmP (raw:List Int) (n k:Nat) (O L:List Int):Prop where
 lo:O.length=k
 ll:L.length=n-k
 pm:(O++L).Perm (lows n)
 id:raw=[]→O=(lows n).take k∧L=(lows n).drop k
section
variable {raw:List Int} {n k j:Nat} {O L:List Int}
theorem lows_len:(lows n).length=n:=by simp[lows]
theorem PmP.start:PmP raw n 0 [] (lows n):=⟨rfl,by rw[lows_len];omega,List.Perm.refl _,fun _=>⟨rfl,rfl⟩⟩
theorem PmP.step (h:PmP raw n k O L) (hj:j<L.length) (h0:raw=[]→j=0):PmP raw n (k+1) (O++[L[j]]) (L.eraseIdx j):=by
 have hl:=h.ll
 refine⟨by rw[List.length_append,h.lo];rfl,by rw[List.length_eraseIdx_of_lt hj];omega,?_,fun hr=>?_⟩
 ·refine List.Perm.trans ?_ h.pm
  rw[List.append_assoc]
  refine List.Perm.append_left O ?_
  have:L=L.take j++L[j]::L.drop (j+1):=by rw[←List.drop_eq_getElem_cons hj,List.take_append_drop]
  have e:L.eraseIdx j=L.take j++L.drop (j+1):=List.eraseIdx_eq_take_drop_succ _ _
  rw[e]
  refine List.Perm.trans ?_ (List.Perm.of_eq this.symm)
  show(L[j]::(L.take j++L.drop (j+1))).Perm _
  exact(List.perm_middle).symm
 ·obtain⟨e1,e2⟩:=h.id hr
  have hj0:=h0 hr
  subst hj0
  have hk:k<(lows n).length:=by rw[lows_len];omega
  have hd:=List.drop_eq_getElem_cons hk
  have e3:L[0]=(lows n)[k]:=by
   simp only[e2,hd]
   rfl
  refine⟨by rw[e3,e1,List.take_succ_eq_append_getElem hk],?_⟩
  rw[e2,hd]
  rfl
theorem PmP.done (h:PmP raw n n O L):O.Perm (lows n)∧(raw=[]→O=lows n):=by
 have hl:L=[]:=List.length_eq_zero_iff.1 (by rw[h.ll];omega)
 have h1:=h.pm
 rw[hl,List.append_nil] at h1
 exact⟨h1,fun hr=>by rw[(h.id hr).1];exact List.take_of_length_le (by rw[lows_len];exact Nat.le_refl _)⟩
end
def FRow (w:World) (e:TypeId) (size:Nat) (v:Value) (n:Nat) (xs:List Value):Prop:=
 w.ownsRow 0 e size v n xs∨∃g cs,v=.slice (some ⟨g,0,none⟩) n n∧w.heap[g]? =some (.cells cs e (0,0))∧cs.toList.take (n*size)=xs∧xs.length=n*size
section
variable {w w':World} {e:TypeId} {size n:Nat} {v:Value} {xs:List Value}
theorem FRow.len (h:FRow w e size v n xs):xs.length=n*size:=by
 rcases h with h|⟨g,cs,_,_,_,h⟩
 ·exact h.1
 ·exact h
theorem FRow.shape (h:FRow w e size v n xs):∃ao cap,v=.slice ao n cap∧(0<n→∃g,ao=some ⟨g,0,none⟩)∧n≤cap:=by
 rcases h with h|⟨g,cs,rfl,_⟩
 ·obtain⟨ao,cap,rfl,hp⟩:=own_shape h
  exact⟨ao,cap,rfl,hp,own_cap' h⟩
 ·exact⟨_,n,rfl,fun _=>⟨g,rfl⟩,Nat.le_refl _⟩
theorem FRow.ty (h:FRow w e size v n xs) {k:Nat} (hk:v.ownBlock=some k):∃cs,w.heap[k]? =some (.cells cs e (0,0)):=by
 rcases h with h|⟨g,cs,rfl,h1,_⟩
 ·exact own_ty h k hk
 ·obtain rfl:g=k:=Option.some.inj hk
  exact⟨cs,h1⟩
theorem FRow.lt (h:FRow w e size v n xs) {k:Nat} (hk:v.ownBlock=some k):k<w.heap.size:=by
 obtain⟨cs,h1⟩:=h.ty hk
 exact lt_of_block h1
theorem FRow.kept {F:Nat→Prop} (h:FRow w e size v n xs) (hk:Kept F w w') (hF:∀k,v.ownBlock=some k→¬F k):FRow w' e size v n xs:=by
 rcases h with h|⟨g,cs,rfl,h1,h2⟩
 ·exact .inl (own_kept h hk hF)
 ·exact .inr ⟨g,cs,rfl,(hk.block g (lt_of_block h1) (hF g rfl)).trans h1,h2⟩
theorem FRow.cell (h:FRow w e size v n xs) {g cap n':Nat} (hv:v=.slice (some ⟨g,0,none⟩) n' cap) {j:Nat} (hj:j<n*size):w.cell? ⟨g,j,none⟩=xs[j]? :=by
 rcases h with h|⟨g',cs,e1,h1,h2,h3⟩
 ·obtain⟨ao,cap',e1,_⟩:=own_shape h
  rw[hv] at e1
  injection e1 with e1 e2 e3
  subst e1 e2 e3
  subst hv
  exact World.ownsRow.cellAt h j hj
 ·rw[hv] at e1
  injection e1 with e1 e2 e3
  injection e1 with e1;injection e1 with e1
  subst e1
  rw[cell_of_row w g j _ _ _ h1,←h2,List.getElem?_take_of_lt hj,Array.getElem?_toList]
theorem FRow.cut {ao:Option Addr} {cap k:Nat} (h:FRow w e size (.slice ao n cap) n xs) (hk:k≤n):FRow w e size (.slice ao k k) k (xs.take (k*size)):=by
 have hl:=h.len
 have hkm:k*size≤n*size:=Nat.mul_le_mul_right _ hk
 have hx:(xs.take (k*size)).length=k*size:=by rw[List.length_take];omega
 rcases h with h|⟨g',cs,e1,h1,h2,h3⟩
 ·rcases h.2 with⟨e1,e2⟩|⟨g',cap',cur,e1,_,hg,_,_,_,h4⟩
  ·injection e1 with e1 _ _
   subst e1
   obtain rfl:k=0:=by omega
   exact .inl ⟨by simp,.inl ⟨rfl,rfl⟩⟩
  ·injection e1 with e1 _ _
   subst e1
   exact .inr ⟨g',cur,rfl,hg,by rw[←h4,List.take_take,Nat.min_eq_left hkm],hx⟩
 ·injection e1 with e1 _ _
  subst e1
  exact .inr ⟨g',cs,rfl,h1,by rw[←h2,List.take_take,Nat.min_eq_left hkm],hx⟩
theorem step_append_frow {P:Program} {ops:Array Oper} {o:Oper} {a:Act} {K:Act→World→Prop} {Q:Exit→Act→World→Prop} {E:Prop} (hgd:o.guard=none) (s x:Operand) (t:TypeId)
 (ho:o.op=.call { callee:=.builtin .append,args:=#[s,x],argTypes:=#[t,t] })
 (e:TypeId) (i:TypeInfo) (z:Value) (size bytes:Nat) (ht:P.underlying t=some (.slice e)) (hi:P.info? e=some i) (hz:i.zero=some z)
 (hsize:i.size=size) (hby:i.bytes=bytes) (hzs:z.cells.size=size) (hsz:0<size)
 (v:Value) (n:Nat) (xs:List Value) (hs:a.eval s=v) (hown:FRow w e size v n xs)
 (ad:Addr) (m c:Nat) (news:List Value) (hx:a.eval x=.slice (some ad) m c) (hl:news.length=m*size) (hnews:∀j u,news[j]? =some u→w.cell? (ad.add j)=some u) (h1:∀u∈news,u.oneCell'=true)
 (hm:0<m) (h63:n+m≤maxLen) (hbytes:(n+m)*bytes≤140737488355328)
 (h:∀g cap w',w'.ownsRow 0 e size (.slice (some ⟨g,0,none⟩) (n+m) cap) (n+m) (xs++news)→Kept (fun k=>v.ownBlock=some k) w w'→(v.ownBlock=some g∨w.heap.size≤g)→K (a.put o.dst (.slice (some ⟨g,0,none⟩) (n+m) cap)) w'):
 if Region.wanted o (yielded ops a.tmps)=true then Oper.wp P o a w K Q else E:=by
 rcases hown with hown|⟨g,cs,rfl,q1,q2,q3⟩
 ·refine step_append_lies w hgd s x t ho 0 e i z size bytes ht hi hz hsize hby hzs hsz v n xs hs hown ad m c news hx hl hnews h1 hm h63 hbytes (Nat.zero_le _) _ rfl ?_
  intro g cap w' r1 r2 r3 _
  exact h g cap w' r1 (kept_of_grown r2) (r3.imp id (fun e=>by omega))
 ·have hw:Region.wanted o (yielded ops a.tmps)=true:=by simp[Region.wanted,hgd]
  rw[if_pos hw]
  obtain⟨v',w',hrun,r1,r2⟩:=run_append_arg_grows (P:=P) w t o.type e i z size bytes ht hi hz hsize hby hzs hsz ⟨g,0,none⟩ n n xs q3 (fun j u hu=>by
   have hj:j<n*size:=by
    rcases Nat.lt_or_ge j xs.length with h|h
    ·omega
    ·rw[List.getElem?_eq_none h] at hu;cases hu
   rw[addr_add,Nat.zero_add,cell_of_row w g j _ _ _ q1]
   rw[←q2,List.getElem?_take_of_lt hj,Array.getElem?_toList] at hu
   exact hu) ad m c news hl hnews (by omega) h63 hbytes
  obtain⟨ao,cap,rfl,hp⟩:=own_shape r1
  obtain⟨g',rfl⟩:=hp (by omega)
  unfold Oper.wp
  simp[execOp,ho,resolve,invoke,builtin,hs,hx,hrun,Result.andThen]
  exact h g' cap w' (own_mono r1 (Nat.zero_le _)) (Kept.of_below (below_of_grown r2)) (.inr (World.ownsRow.lt r1 g' rfl).1)
end
def refs (N:List Nd) (i:Int):List Int:=((List.range N.length).filter fun j=>decide ((N.getD j (0,[])).1=i)).map fun(j:Nat)=>(j:Int)+2
theorem refs_mem {N:List Nd} {i f:Int}:f∈refs N i↔∃j,j<N.length∧(N.getD j (0,[])).1=i∧f=(j:Int)+2:=by
 unfold refs
 simp only[List.mem_map,List.mem_filter,List.mem_range,decide_eq_true_eq]
 exact⟨fun⟨j,⟨h1,h2⟩,h3⟩=>⟨j,h1,h2,h3.symm⟩,fun⟨j,h1,h2,h3⟩=>⟨j,⟨h1,h2⟩,h3.symm⟩⟩
theorem refs_snoc (N:List Nd) (x:Nd) (i:Int):refs (N++[x]) i=if x.1=i then refs N i++[(N.length:Int)+2] else refs N i:=by
 unfold refs
 rw[List.length_append,List.length_singleton,List.range_succ,List.filter_append,List.map_append]
 have e1:((List.range N.length).filter fun j=>decide (((N++[x]).getD j (0,[])).1=i))=(List.range N.length).filter fun j=>decide ((N.getD j (0,[])).1=i):=by
  apply List.filter_congr
  intro j hj
  rw[List.mem_range] at hj
  simp only[List.getD_eq_getElem?_getD]
  rw[List.getElem?_append_left hj]
 rw[e1]
 by_cases h:x.1=i
 ·rw[if_pos h]
  simp[h]
 ·rw[if_neg h]
  simp[h]
theorem refs_len (N:List Nd) (i:Int):(refs N i).length≤N.length:=by
 unfold refs
 rw[List.length_map]
 exact Nat.le_trans (List.length_filter_le _ _) (by simp)
structure RAy (w:World) (x:Nat) (S:List Int) (M:Int) (R:List ND) (L:Nat→List Int) (P:Nat→Prop) (sb sc:Nat) (nv lv:Value) (LV:List Value):Prop where
 blk:w.heap[x]? =some (.cells #[.slice (some ⟨sb,0,none⟩) S.length sc,.int .i64 M,nv,lv] 65 (0,0))
 sz:ZBk w sb S
 row:FRow w 86 2 nv R.length (ndC R)
 kid:∀y∈R,ZBk w y.kb y.ks
 lrow:w.ownsRow 0 22 1 lv S.length LV
 lists:∀i,i<S.length→FRow w 3 1 (LV.getD i (.slice none 0 0)) (L i).length (zC (L i))
 apart:∀i j,i<S.length→j<S.length→i≠j→∀k,(LV.getD i (.slice none 0 0)).ownBlock=some k→¬(LV.getD j (.slice none 0 0)).ownBlock=some k
 fix:∀i,i<S.length→∀k,(LV.getD i (.slice none 0 0)).ownBlock=some k→k≠sb∧∀y∈R,k≠y.kb
 px:P x
 ps:P sb
 pn:∀k,nv.ownBlock=some k→P k
 pl:∀k,lv.ownBlock=some k→P k
 pi:∀i,i<S.length→∀k,(LV.getD i (.slice none 0 0)).ownBlock=some k→P k
 pk:∀y∈R,P y.kb
 plt:∀k,P k→k<w.heap.size
 ok:Ok S M (R.map ND.nd)
 m8:M≤8192
abbrev RAx (w:World) (x:Nat) (S:List Int) (M:Int) (R:List ND) (P:Nat→Prop) (sb sc:Nat) (nv lv:Value) (LV:List Value):Prop:=RAy w x S M R (fun i=>refs (R.map ND.nd) (i:Int)) P sb sc nv lv LV
def RA (w:World) (x:Nat) (S:List Int) (M:Int) (N:List Nd) (P:Nat→Prop):Prop:=∃R sb sc nv lv LV,RAx w x S M R P sb sc nv lv LV∧R.map ND.nd=N
section
variable {w w':World} {x:Nat} {S:List Int} {M:Int} {R:List ND} {N:List Nd} {P F:Nat→Prop} {sb sc:Nat} {nv lv:Value} {LV:List Value} {L:Nat→List Int}
theorem RAy.kept (h:RAy w x S M R L P sb sc nv lv LV) (hk:Kept F w w') (hF:∀k,P k→¬F k):RAy w' x S M R L P sb sc nv lv LV:=
 ⟨(hk.block x (h.plt x h.px) (hF x h.px)).trans h.blk,h.sz.kept hk (hF _ h.ps),h.row.kept hk (fun k hb=>hF k (h.pn k hb)),fun y hy=>(h.kid y hy).kept hk (hF _ (h.pk y hy)),own_kept h.lrow hk (fun k hb=>hF k (h.pl k hb)),fun i hi=>(h.lists i hi).kept hk (fun k hb=>hF k (h.pi i hi k hb)),h.apart,h.fix,h.px,h.ps,h.pn,h.pl,h.pi,h.pk,fun k hp=>Nat.lt_of_lt_of_le (h.plt k hp) hk.size,h.ok,h.m8⟩
theorem RAy.below (h:RAy w x S M R L P sb sc nv lv LV) (y:Below w.heap.size w w'):RAy w' x S M R L P sb sc nv lv LV:=h.kept (F:=fun _=>False) (Kept.of_below y) (fun _ _ h=>h)
theorem RA.kept (h:RA w x S M N P) (hk:Kept F w w') (hF:∀k,P k→¬F k):RA w' x S M N P:=by
 obtain⟨R,sb,sc,nv,lv,LV,h1,h2⟩:=h
 exact⟨R,sb,sc,nv,lv,LV,h1.kept hk hF,h2⟩
theorem RA.below (h:RA w x S M N P) (y:Below w.heap.size w w'):RA w' x S M N P:=h.kept (F:=fun _=>False) (Kept.of_below y) (fun _ _ h=>h)
theorem RA.ok (h:RA w x S M N P):Ok S M N:=by
 obtain⟨R,sb,sc,nv,lv,LV,h1,rfl⟩:=h
 exact h1.ok
theorem RA.m8 (h:RA w x S M N P):M≤8192:=by
 obtain⟨R,sb,sc,nv,lv,LV,h1,rfl⟩:=h
 exact h1.m8
theorem RA.plt (h:RA w x S M N P) {k:Nat} (hk:P k):k<w.heap.size:=by
 obtain⟨R,sb,sc,nv,lv,LV,h1,rfl⟩:=h
 exact h1.plt k hk
theorem RAy.ra (h:RAy w x S M R (fun i=>refs (R.map ND.nd) (i:Int)) P sb sc nv lv LV):RA w x S M (R.map ND.nd) P:=⟨R,sb,sc,nv,lv,LV,h,rfl⟩
theorem RAy.cells (h:RAy w x S M R L P sb sc nv lv LV):w.cell? ⟨x,0,none⟩=some (.slice (some ⟨sb,0,none⟩) S.length sc)∧w.cell? ⟨x,1,none⟩=some (.int .i64 M)∧w.cell? ⟨x,2,none⟩=some nv∧w.cell? ⟨x,3,none⟩=some lv:=by
 refine⟨?_,?_,?_,?_⟩<;>(rw[cell_of_row w x _ _ _ _ h.blk];rfl)
theorem RAy.few (h:RAy w x S M R L P sb sc nv lv LV):R.length≤8192:=by
 have h1:=h.ok.few
 have h2:=h.m8
 rw[List.length_map] at h1
 omega
theorem RAy.node (h:RAy w x S M R L P sb sc nv lv LV) {g cap n:Nat} (hv:nv=.slice (some ⟨g,0,none⟩) n cap) {i:Nat} (hi:i<R.length):w.cell? ⟨g,i*2,none⟩=some (.int .i64 (R[i]).lv)∧w.cell? ⟨g,i*2+1,none⟩=some (.slice (some ⟨(R[i]).kb,0,none⟩) (R[i]).ks.length (R[i]).kc):=by
 obtain⟨g1,g2⟩:=ndC_get R i hi
 exact⟨(h.row.cell hv (by omega)).trans g1,(h.row.cell hv (by omega)).trans g2⟩
theorem RAy.lcell (h:RAy w x S M R L P sb sc nv lv LV) {i:Nat} (hi:i<S.length):∃g c,lv=.slice (some ⟨g,0,none⟩) S.length c∧g<w.heap.size∧w.cell? ⟨g,i,none⟩=some (LV.getD i (.slice none 0 0))∧w.frozen? ⟨g,i,none⟩=false:=by
 obtain⟨ao,c,rfl,hp⟩:=own_shape h.lrow
 obtain⟨g,rfl⟩:=hp (by omega)
 have hl:=h.lrow.1
 refine⟨g,c,rfl,(World.ownsRow.lt h.lrow g rfl).2,?_,h.lrow.frozenAt _⟩
 rw[World.ownsRow.cellAt h.lrow i (by omega),List.getD_eq_getElem?_getD,List.getElem?_eq_getElem (by omega)]
 rfl
set_option maxRecDepth 100000 in
theorem hasD_any (f:Int) (h:RAx w x S M R P sb sc nv lv LV):Calls Try.prog 51 #[.pointer (some ⟨x,0,none⟩),.int .i64 f] w fun e w'=>e=.returned (.bool (hasN R.length f))∧w'=w:=by
 obtain⟨c0,c1,c2,c3⟩:=h.cells
 have hf:=h.few
 obtain⟨ao,cap,rfl,_⟩:=h.row.shape
 have e1:IntKind.i64.wrap ((R.length:Int)+2)=(R.length:Int)+2:=by simp[IntKind.wrap,IntKind.bits,IntKind.signed];omega
 clear h
 generalize R.length=n at *
 by_cases h0:0≤f
 ·by_cases h1:f<(n:Int)+2
  ·rw[show hasN n f=true by simp only[hasN,decide_eq_true h0,decide_eq_true h1,Bool.and_true]]
   go_enter Try.func51,Try.ntmps51
   go_wp2
   go_ret
   exact⟨rfl,rfl⟩
  ·rw[show hasN n f=false by simp only[hasN,decide_eq_false h1,Bool.and_false]]
   go_enter Try.func51,Try.ntmps51
   go_wp2
   go_ret
   exact⟨rfl,rfl⟩
 ·rw[show hasN n f=false by simp only[hasN,decide_eq_false h0,Bool.false_and]]
  go_enter Try.func51,Try.ntmps51
  go_wp2
  go_ret
  exact⟨rfl,rfl⟩
set_option maxRecDepth 100000 in
theorem levelD_any (f:Int) (h:RAx w x S M R P sb sc nv lv LV):Calls Try.prog 27 #[.pointer (some ⟨x,0,none⟩),.int .i64 f] w fun e w'=>e=.returned (.int .i64 (lvl S (R.map ND.nd) f))∧w'=w:=by
 obtain⟨c0,c1,c2,c3⟩:=h.cells
 have hfw:=h.few
 have e0:IntKind.i64.wrap ((R.length:Int)+2)=(R.length:Int)+2:=by simp[IntKind.wrap,IntKind.bits,IntKind.signed];omega
 by_cases hc:2≤f∧f<(R.length:Int)+2
 ·obtain⟨i,hi,rfl,e⟩:=lvl_node (S:=S) hc.1 hc.2
  rw[e]
  have hc1:¬(i:Int)+2<2:=by omega
  have hc2:¬(R.length:Int)+2≤(i:Int)+2:=by omega
  clear e hc
  obtain⟨ao,cap,hv,hp,_⟩:=h.row.shape
  obtain⟨g,rfl⟩:=hp (by omega)
  subst hv
  obtain⟨d0,d1⟩:=h.node rfl hi
  have e1:IntKind.i64.wrap ((i:Int)+2-2)=(i:Int):=by simp[IntKind.wrap,IntKind.bits,IntKind.signed];omega
  have hi':(i:Int)<(R.length:Int):=by omega
  clear h hp d1
  generalize (R[i]).lv=lv' at *
  generalize R.length=n at *
  go_enter Try.func27,Try.ntmps27
  go_wp2
  go_ret
  exact⟨rfl,rfl⟩
 ·rw[lvl_none hc]
  obtain⟨ao,cap,rfl,_⟩:=h.row.shape
  clear h
  generalize R.length=n at *
  by_cases h1:f<2
  ·go_enter Try.func27,Try.ntmps27
   go_wp2
   go_ret
   exact⟨rfl,rfl⟩
  ·have h2:(n:Int)+2≤f:=by omega
   clear hc
   go_enter Try.func27,Try.ntmps27
   go_wp2
   go_ret
   exact⟨rfl,rfl⟩
set_option maxRecDepth 100000 in
theorem lenD_any (h:RAx w x S M R P sb sc nv lv LV):Calls Try.prog 26 #[.pointer (some ⟨x,0,none⟩)] w fun e w'=>e=.returned (.int .i64 (R.length:Int))∧w'=w:=by
 obtain⟨c0,c1,c2,c3⟩:=h.cells
 obtain⟨ao,cap,rfl,_⟩:=h.row.shape
 clear h
 go_enter Try.func26,Try.ntmps26
 go_wp2
 go_ret
 exact⟨rfl,rfl⟩
end
theorem Kept.none_below {w w':World} (h:Kept (fun k=>(Value.slice none 0 0).ownBlock=some k) w w'):Below w.heap.size w w':=h.below (Nat.le_refl _) (fun k hk=>by cases hk)
section
variable {w w':World} {x:Nat} {S:List Int} {M:Int} {R:List ND} {N:List Nd} {P F:Nat→Prop} {sb sc:Nat} {nv lvv:Value} {LV:List Value}
set_option maxRecDepth 100000 in
set_option maxHeartbeats 4000000 in
theorem nodeD_any (f:Int) (h:RAx w x S M R P sb sc nv lvv LV):Calls Try.prog 69 #[.pointer (some ⟨x,0,none⟩),.int .i64 f] w fun e w'=>NdL (R.map ND.nd) f w e w':=by
 obtain⟨i3,hi3,hz30,hz31,hz32⟩:=info_parts Try.info3
 have y0:Below w.heap.size w (w.alloc (.cells #[.int .i64 0,.slice none 0 0] 86)):=al (Below.refl _ _) _
 have h0:=h.below y0
 have b0:=heap_alloc_new w (.cells #[.int .i64 0,.slice none 0 0] 86)
 have hfw:=h.few
 have e0:IntKind.i64.wrap ((R.length:Int)+2)=(R.length:Int)+2:=by simp[IntKind.wrap,IntKind.bits,IntKind.signed];omega
 obtain⟨c0,c1,c2,c3⟩:=h0.cells
 by_cases hc:2≤f∧f<(R.length:Int)+2
 ·obtain⟨i,hi,rfl,-⟩:=lvl_node (S:=S) hc.1 hc.2
  have hc1:¬(i:Int)+2<2:=by omega
  have hc2:¬(R.length:Int)+2≤(i:Int)+2:=by omega
  obtain⟨ao,cap,hv,hp,_⟩:=h.row.shape
  obtain⟨g,rfl⟩:=hp (by omega)
  subst hv
  obtain⟨d0,d1⟩:=h0.node rfl hi
  have hgl:g<w.heap.size:=h.row.lt rfl
  have e1:IntKind.i64.wrap ((i:Int)+2-2)=(i:Int):=by simp[IntKind.wrap,IntKind.bits,IntKind.signed];omega
  have e2:IntKind.i64.wrap (i:Int)=(i:Int):=by simp[IntKind.wrap,IntKind.bits,IntKind.signed];omega
  have e3:(0:Int)≤(i:Int):=by omega
  have hi':(i:Int)<(R.length:Int):=by omega
  have HND:Hid ((R.map ND.nd)[i]? =some ((R[i]).lv,(R[i]).ks)):=by unfold Hid;rw[List.getElem?_eq_getElem (by simpa using hi),List.getElem_map];rfl
  have hmi:=h.ok.may (i:=i) (by rw[List.length_map];exact hi)
  rw[List.getElem_map] at hmi
  obtain⟨-,-,hk1,hk2⟩:=hmi.rng h.ok (by rw[List.length_map];exact hfw)
  have hkz:=h0.kid (R[i]) (List.getElem_mem hi)
  have hxl:=h.plt x h.px
  simp only[ND.nd] at hk1 hk2
  clear h hp h0 hc hmi
  generalize (R[i]).lv=lv at *
  generalize (R[i]).ks=ks at *
  generalize (R[i]).kb=kb at *
  generalize (R[i]).kc=kc at *
  have HB0:=hide b0
  have HY0:=hide y0
  have HKZ:=hide hkz
  have HI:=hide hi
  have hws:w.heap.size<(w.alloc (.cells #[.int .i64 0,.slice none 0 0] 86)).heap.size:=by simp
  clear b0 y0 hkz hi
  go_enter Try.func69,Try.ntmps69
  go_upto_region 4 with fail
  have yd:=HY0.out.drew
  have HS0:Hid ((w.alloc (.cells #[.int .i64 0,.slice none 0 0] 86)).drew.cell? ⟨x,2,none⟩=some (.slice (some ⟨g,0,none⟩) R.length cap)∧(w.alloc (.cells #[.int .i64 0,.slice none 0 0] 86)).drew.cell? ⟨g,i*2,none⟩=some (.int .i64 lv)∧(w.alloc (.cells #[.int .i64 0,.slice none 0 0] 86)).drew.cell? ⟨g,i*2+1,none⟩=some (.slice (some ⟨kb,0,none⟩) ks.length kc)):=⟨c2,d0,d1⟩
  have B0d:Hid ((w.alloc (.cells #[.int .i64 0,.slice none 0 0] 86)).drew.heap[w.heap.size]? =_):=HB0.out
  have Zd:Hid (ZBk (w.alloc (.cells #[.int .i64 0,.slice none 0 0] 86)).drew kb ks):=HKZ.out
  have Yd:=hide yd
  have hwd:w.heap.size<(w.alloc (.cells #[.int .i64 0,.slice none 0 0] 86)).drew.heap.size:=hws
  clear c0 c1 c2 c3 d0 d1 yd HB0 HKZ HY0 hws
  refine wp_unt (S:=fun V=>V.cell? ⟨x,2,none⟩=some (.slice (some ⟨g,0,none⟩) R.length cap)∧V.cell? ⟨g,i*2,none⟩=some (.int .i64 lv)∧V.cell? ⟨g,i*2+1,none⟩=some (.slice (some ⟨kb,0,none⟩) ks.length kc)) 21 (by kernel_rfl) ?_
  generalize (w.alloc (.cells #[.int .i64 0,.slice none 0 0] 86)).drew=wd at *
  refine UntH.tk 0 rfl 20 HS0.out (fun w' ⟨q0,q1,q2⟩=>by go_simp;first|done|rfl) ?_
  refine UntH.tk 1 rfl 21 HS0.out (fun w' ⟨q0,q1,q2⟩=>by go_simp;first|done|rfl) ?_
  refine UntH.tk 2 rfl 22 HS0.out (fun w' ⟨q0,q1,q2⟩=>by go_simp;first|done|rfl) ?_
  refine UntH.tk 3 rfl 23 HS0.out (fun w' ⟨q0,q1,q2⟩=>by go_simp;first|done|rfl) ?_
  refine UntH.tk 4 rfl 24 HS0.out (fun w' ⟨q0,q1,q2⟩=>by go_simp;first|done|rfl) ?_
  refine UntH.tk 5 rfl 25 HS0.out (fun w' ⟨q0,q1,q2⟩=>by go_simp;first|done|rfl) ?_
  refine UntH.tk 6 rfl 26 HS0.out (fun w' ⟨q0,q1,q2⟩=>by go_simp;first|done|rfl) ?_
  refine UntH.tk 7 rfl 27 HS0.out (fun w' ⟨q0,q1,q2⟩=>by go_simp;first|done|rfl) ?_
  refine UntH.tk 8 rfl 28 HS0.out (fun w' ⟨q0,q1,q2⟩=>by go_simp;first|done|rfl) ?_
  refine UntH.tk 9 rfl 29 HS0.out (fun w' ⟨q0,q1,q2⟩=>by go_simp;first|done|rfl) ?_
  refine UntH.tk 10 rfl 30 HS0.out (fun w' ⟨q0,q1,q2⟩=>by go_simp;first|done|rfl) ?_
  refine UntH.tk 11 rfl 31 HS0.out (fun w' ⟨q0,q1,q2⟩=>by go_simp;first|done|rfl) ?_
  refine UntH.tk 12 rfl 32 HS0.out (fun w' ⟨q0,q1,q2⟩=>by go_simp;first|done|rfl) ?_
  refine UntH.tk 13 rfl 33 HS0.out (fun w' ⟨q0,q1,q2⟩=>by go_simp;first|done|rfl) ?_
  refine UntH.tk 14 rfl 34 HS0.out (fun w' ⟨q0,q1,q2⟩=>by go_simp;first|done|rfl) ?_
  refine UntH.tk 15 rfl 35 HS0.out (fun w' ⟨q0,q1,q2⟩=>by go_simp;first|done|rfl) ?_
  refine UntH.tk 16 rfl 36 HS0.out (fun w' ⟨q0,q1,q2⟩=>by go_simp;first|done|rfl) ?_
  refine UntH.tk 17 rfl 37 HS0.out (fun w' ⟨q0,q1,q2⟩=>by go_simp;first|done|rfl) ?_
  refine UntH.tk 18 rfl 38 HS0.out (fun w' ⟨q0,q1,q2⟩=>by go_simp;first|done|rfl) ?_
  try simp only[Act.put,List.setIfInBounds_toArray,List.set_cons_zero,List.set_cons_succ]
  have HL:Hid ((zC ks).length=ks.length*1):=by unfold Hid;rw[zC_length,Nat.mul_one]
  refine UntH.step (i:=19) (by kernel_rfl) rfl (fun K hK=>?_)
  refine step_append_frow (by rfl) (.tmp 29) (.tmp 38) 22 (by rfl) 3 i3 (.int .i64 0) 1 8 Try.underlying22 hi3 hz30 hz31 hz32 rfl (by decide) (.slice none 0 0) 0 [] (by rfl) (.inl (World.ownsRow_nil _ _ _ _)) ⟨kb,0,none⟩ ks.length kc (zC ks) (by rfl) HL.out Zd.out.at.cells (zC_one ks) (by omega) (by unfold maxLen;omega) (by omega) ?_
  intro g6 cg6 w6 h1 h2 h3
  have x6:=Kept.none_below h2
  rw[Nat.zero_add,List.nil_append] at h1
  have hg6:wd.heap.size≤g6:=by
   rcases h3 with h3|h3
   ·cases h3
   ·exact h3
  obtain⟨g7,c7,e7,-,z6⟩:=own_blk h1 (by omega)
  injection e7 with e7 _ e8
  injection e7 with e7;injection e7 with e7
  subst e7 e8
  have O6:Hid (w6.ownsRow w.heap.size 3 1 (.slice (some ⟨g6,0,none⟩) ks.length cg6) ks.length (zC ks)):=by
   refine⟨h1.1,?_⟩
   rcases h1.2 with⟨e,_⟩|⟨g',cap',cur,e,_,r⟩
   ·cases e
   ·have e':=e
    injection e with e1 _ _
    injection e1 with e1;injection e1 with e1
    subst e1
    exact .inr ⟨g6,cap',cur,e',Nat.le_trans Yd.out.size hg6,r⟩
  have Z6:=hide z6
  have L6:=hide (Nat.le_trans Yd.out.size hg6)
  have HL6:=hide hg6
  have Y6:=hide (bt Yd.out x6 (Nat.le_refl _))
  have B06:=hide ((x6.block _ (lt_of_block B0d.out)).trans B0d.out)
  have HBL:=hide (lt_of_block B0d.out)
  have hxd:x<wd.heap.size:=by omega
  have hgd:g<wd.heap.size:=by omega
  have HS6:Hid (w6.cell? ⟨x,2,none⟩=some (.slice (some ⟨g,0,none⟩) R.length cap)∧w6.cell? ⟨g,i*2,none⟩=some (.int .i64 lv)∧w6.cell? ⟨g,i*2+1,none⟩=some (.slice (some ⟨kb,0,none⟩) ks.length kc)):=⟨(x6.cell (p:=⟨x,2,none⟩) hxd).trans HS0.out.1,(x6.cell (p:=⟨g,i*2,none⟩) hgd).trans HS0.out.2.1,(x6.cell (p:=⟨g,i*2+1,none⟩) hgd).trans HS0.out.2.2⟩
  rw[Nat.zero_add]
  refine hK _ _ HS6.out ?_
  clear hK K h1 h2 h3 x6 hg6 z6 HL
  refine UntH.tk 20 rfl 40 HS6.out (fun w' ⟨q0,q1,q2⟩=>by go_simp;first|done|rfl) ?_
  have r0:w6.cell? ⟨w.heap.size,0,none⟩=some (.int .i64 0):=by rw[cell_of_row _ _ 0 _ _ _ B06.out];rfl
  have r1:w6.cell? ⟨w.heap.size,1,none⟩=some (.slice none 0 0):=by rw[cell_of_row _ _ 1 _ _ _ B06.out];rfl
  have f0:=frozen_of_row w6 w.heap.size 0 _ _ B06.out
  have f1:=frozen_of_row w6 w.heap.size 1 _ _ B06.out
  refine UntH.stepf (i:=21) (by kernel_rfl) rfl (by kernel_rfl) (fun K hK=>?_)
  go_simp
  refine hK _ _ ?_
  clear hK K r0 r1 f0 f1 HS0 HS6
  have b2:=block_setCell (block_setCell B06.out 0 (.int .i64 lv)) 1 (.slice (some ⟨g6,0,none⟩) ks.length cg6)
  have k2:Kept (fun k=>k=w.heap.size) w6 ((w6.setCell ⟨w.heap.size,0,none⟩ (.int .i64 lv)).setCell ⟨w.heap.size,1,none⟩ (.slice (some ⟨g6,0,none⟩) ks.length cg6)):=Kept.setCell (F:=fun k=>k=w.heap.size) (p:=⟨w.heap.size,1,none⟩) (Kept.setCell (F:=fun k=>k=w.heap.size) (p:=⟨w.heap.size,0,none⟩) (Kept.refl _ _) rfl _) rfl _
  have HB2:=hide b2
  have HK2:=hide k2
  have hng:¬g6=w.heap.size:=by have h1:=HL6.out;have h2:=HBL.out;omega
  have Y7:=hide (bl (bl Y6.out (Nat.le_refl _) 0 (.int .i64 lv)) (Nat.le_refl _) 1 (.slice (some ⟨g6,0,none⟩) ks.length cg6))
  clear b2 k2
  generalize (w6.setCell ⟨w.heap.size,0,none⟩ (.int .i64 lv)).setCell ⟨w.heap.size,1,none⟩ (.slice (some ⟨g6,0,none⟩) ks.length cg6)=w7 at *
  have O7:=hide (own_kept O6.out HK2.out (fun k hk e=>hng (by have:g6=k:=Option.some.inj hk;omega)))
  have Z7:=hide (Z6.out.kept HK2.out hng)
  refine UntH.stepf (i:=22) (by kernel_rfl) rfl (by kernel_rfl) (fun K hK=>?_)
  go_simp
  refine hK _ _ ?_
  clear hK K
  refine UntH.end (by kernel_rfl) ?_
  go_wp2
  have r3:w7.cell? ⟨w.heap.size,0,none⟩=some (.int .i64 lv):=by rw[cell_of_row w7 w.heap.size 0 _ _ _ HB2.out];rfl
  have r4:w7.cell? ⟨w.heap.size,1,none⟩=some (.slice (some ⟨g6,0,none⟩) ks.length cg6):=by rw[cell_of_row w7 w.heap.size 1 _ _ _ HB2.out];rfl
  refine bodyPost_ret (by simp[results,Try.results69,go_sem,r3,r4];try rfl) rfl ?_
  exact⟨.inl ⟨i,lv,ks,g6,cg6,HND.out,rfl,rfl,O7.out,Z7.out,L6.out⟩,Y7.out⟩
 ·have HC:Hid (¬(2≤f∧f<((R.map ND.nd).length:Int)+2)):=by unfold Hid;rw[List.length_map];exact hc
  obtain⟨ao,cap,rfl,_⟩:=h.row.shape
  have HY0:=hide y0
  have r0:(w.alloc (.cells #[.int .i64 0,.slice none 0 0] 86)).cell? ⟨w.heap.size,0,none⟩=some (.int .i64 0):=by rw[cell_of_row _ _ 0 _ _ _ b0];rfl
  have r1:(w.alloc (.cells #[.int .i64 0,.slice none 0 0] 86)).cell? ⟨w.heap.size,1,none⟩=some (.slice none 0 0):=by rw[cell_of_row _ _ 1 _ _ _ b0];rfl
  clear y0 h h0
  by_cases h1:f<2
  ·clear hc
   go_enter Try.func69,Try.ntmps69
   go_wp2
   refine bodyPost_ret (by simp[results,Try.results69,go_sem,r0,r1];try rfl) rfl ?_
   exact⟨.inr ⟨HC.out,rfl⟩,HY0.out⟩
  ·have h2:(R.length:Int)+2≤f:=by omega
   clear hc
   generalize R.length=n at *
   go_enter Try.func69,Try.ntmps69
   go_wp2
   refine bodyPost_ret (by simp[results,Try.results69,go_sem,r0,r1];try rfl) rfl ?_
   exact⟨.inr ⟨HC.out,rfl⟩,HY0.out⟩
end
end Go.Proofs.Ytnddhkhmbjeefaa

