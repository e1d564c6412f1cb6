/-
  isOrder by its contract. Condition: at most 12 levels.
-/
import Derived.Test.YtnddhkhmbjeefaaC19
import Derived.Test.YtnddhkhmbjeefaaC04
import Derived.Test.YtnddhkhmbjeefaaC22
import Derived.Test.YtnddhkhmbjeefaaC24
namespace Go.Proofs.Ytnddhkhmbjeefaa
open Go.RowKit Go.Lib Go.Maps
def OrdN (o:List Int) (n:Nat):Prop:=o.length=n∧o.Nodup∧∀l∈o,0≤l∧l<(n:Int)
def RwT (w:World) (b:Nat) (L:List Bool):Prop:=w.heap[b]? =some (.cells (bC L).toArray 4 (0,0))
theorem RwT.cell {w:World} {b:Nat} {L:List Bool} (h:RwT w b L) {k:Nat} (hk:k<L.length):w.cell? ⟨b,k,none⟩=some (.bool (L.getD k false))∧w.frozen? ⟨b,k,none⟩=false:=by
 refine⟨?_,frozen_of_row w b k _ _ h⟩
 rw[cell_of_row w b _ _ _ _ h,List.getElem?_toArray]
 exact bC_get L hk
theorem RwT.set {w:World} {b:Nat} {L:List Bool} (h:RwT w b L) (k:Nat) (x:Bool):RwT (w.setCell ⟨b,k,none⟩ (.bool x)) b (L.set k x):=by
 unfold RwT
 rw[block_setCell h k]
 congr 2
 apply Array.ext'
 simp[bC,List.map_set]
structure OrI (o:List Int) (n k:Nat) (L:List Bool):Prop where
 len:L.length=n
 met:∀j:Nat,j<n→(L.getD j false=true↔(j:Int)∈o.take k)
 nod:(o.take k).Nodup
 rng:∀l∈o.take k,0≤l∧l<(n:Int)
theorem OrI.step {o:List Int} {n k:Nat} {L:List Bool} (h:OrI o n k L) (hk:k<o.length) {v:Nat} (hv:o[k]=(v:Int)) (hn:v<n) (hm:L.getD v false=false):OrI o n (k+1) (L.set v true):=by
 have e:o.take (k+1)=o.take k++[(v:Int)]:=by rw[List.take_succ_eq_append_getElem hk,hv]
 have nv:(v:Int)∉o.take k:=fun hin=>by rw[(h.met v hn).2 hin] at hm;cases hm
 refine⟨by rw[List.length_set];exact h.len,fun j hj=>?_,?_,fun l hl=>?_⟩
 ·rw[e,List.mem_append,List.mem_singleton]
  by_cases ej:j=v
  ·subst ej
   have hjl:j<L.length:=by rw[h.len];exact hn
   rw[List.getD_eq_getElem?_getD,List.getElem?_set_self hjl]
   simp
  ·have e2:(L.set v true).getD j false=L.getD j false:=by rw[List.getD_eq_getElem?_getD,List.getElem?_set_ne (fun h=>ej h.symm),List.getD_eq_getElem?_getD]
   rw[e2,h.met j hj]
   exact⟨.inl,fun h2=>h2.resolve_right (by omega)⟩
 ·rw[e,List.nodup_append]
  refine⟨h.nod,List.nodup_cons.2 ⟨by simp,List.nodup_nil⟩,fun a ha b hb eab=>?_⟩
  rw[List.mem_singleton.1 hb] at eab
  subst eab
  exact nv ha
 ·rw[e,List.mem_append,List.mem_singleton] at hl
  rcases hl with hl|rfl
  ·exact h.rng l hl
  ·omega
section
variable {w:World}
set_option maxRecDepth 100000 in
set_option maxHeartbeats 1000000 in
theorem isOrder_any (ao:Option Addr) (cap:Nat) (o:List Int) (n:Nat) (hn:n≤12) (hl:o.length≤140737488351232) (hz:ZAt w ao o):
 Calls Try.prog 30 #[.slice ao o.length cap,.int .i64 (n:Int)] w fun e w'=>TellB (OrdN o n) e∧Below w.heap.size w w':=by
 have HZ:=hide hz
 clear hz
 by_cases hlen:o.length=n
 ·subst hlen
  have hmk:=make_bools o.length (o.length:Int) rfl (by omega)
  have X1:Hid (Below w.heap.size w (w.alloc (.cells (bC (List.replicate o.length false)).toArray 4))):=al (Below.refl _ _) _
  have T1:Hid (RwT (w.alloc (.cells (bC (List.replicate o.length false)).toArray 4)) w.heap.size (List.replicate o.length false)):=heap_alloc_new w _
  have O1:Hid (OrI o o.length 0 (List.replicate o.length false)):=⟨by simp,fun j hj=>by simp[List.getD_eq_getElem?_getD,hj],by simp,by simp⟩
  go_enter Try.func30,Try.ntmps30
  go_upto_region 5 with fail
  clear hmk
  generalize w.alloc (.cells (bC (List.replicate o.length false)).toArray 4)=w1 at *
  go_loopw [16] (fun v wr=>∃k:Nat,k≤o.length∧v=.int .i64 (k:Int)∧∃L,Hid (OrI o o.length k L)∧Hid (RwT wr w.heap.size L)∧Hid (Below w.heap.size w wr)) (fun v _=>o.length-(RowKit.intOf v).toNat)
  case atStart=>exact⟨0,Nat.zero_le _,rfl,_,O1,T1,X1⟩
  case round=>
   obtain⟨k,hk,rfl,L,OI,TI,XI⟩:=hrel
   clear O1 T1 X1
   by_cases hlk:k<o.length
   ·have hlk':(k:Int)<(o.length:Int):=by omega
    obtain⟨b1,o1,rfl,hb1,g1⟩:=HZ.out.get hlk
    have q1:=(XI.out.cell (p:=⟨b1,o1+k,none⟩) hb1).trans g1
    rw[show o.getD k 0=o[k] by rw[List.getD_eq_getElem?_getD,List.getElem?_eq_getElem hlk];rfl] at q1
    clear g1
    have HM:Hid (o[k]∈o):=List.getElem_mem hlk
    by_cases h0:o[k]<0
    ·have HD:Hid (¬OrdN o o.length):=fun h=>by have:=h.2.2 _ HM.out;omega
     go_wp2
     go_ret
     exact⟨TellB.no HD.out,XI.out⟩
    ·by_cases h1:(o.length:Int)≤o[k]
     ·have HD:Hid (¬OrdN o o.length):=fun h=>by have:=h.2.2 _ HM.out;omega
      go_wp2
      go_ret
      exact⟨TellB.no HD.out,XI.out⟩
     ·obtain⟨v,hv⟩:∃v:Nat,o[k]=(v:Int):=⟨(o[k]).toNat,by omega⟩
      have HV:=hide hv
      rw[hv] at q1 h0 h1
      have hvl:v<o.length:=by omega
      have hvl':(v:Int)<(o.length:Int):=by omega
      obtain⟨t1,t2⟩:=TI.out.cell (k:=v) (by rw[OI.out.len];exact hvl)
      clear hv
      cases hm:L.getD v false
      ·have OI2:=hide (OI.out.step hlk HV.out hvl hm)
       rw[hm] at t1
       clear hm
       go_wp2
       go_roundw
       case rel=>
        have k2:Kept (fun z=>z=w.heap.size) wr (wr.setCell ⟨w.heap.size,v,none⟩ (.bool true)):=Kept.setCell (F:=fun z=>z=w.heap.size) (p:=⟨w.heap.size,v,none⟩) (Kept.refl _ _) rfl _
        exact⟨k+1,by omega,by go_num,_,OI2,hide (TI.out.set v true),hide (XI.out.trans (k2.below XI.out.size (fun z hz=>by omega)))⟩
       case measure=>simp[RowKit.intOf];omega
      ·have HD:Hid (¬OrdN o o.length):=fun h=>by
        have hin:=(OI.out.met v hvl).1 hm
        obtain⟨i,hi,e⟩:=List.getElem_of_mem hin
        rw[List.length_take] at hi
        rw[List.getElem_take] at e
        have hp:=List.pairwise_iff_getElem.1 h.2.1 i k (by omega) hlk (by omega)
        exact hp (by rw[e,HV.out])
       rw[hm] at t1
       clear hm
       go_wp2
       go_ret
       exact⟨TellB.no HD.out,XI.out⟩
   ·have hlk':¬(k:Int)<(o.length:Int):=by omega
    obtain rfl:k=o.length:=by omega
    have HD:Hid (OrdN o o.length):=by
     have h1:=OI.out.nod
     have h2:=OI.out.rng
     rw[List.take_length] at h1 h2
     exact⟨rfl,h1,h2⟩
    go_wp2
    go_ret
    exact⟨TellB.yes HD.out,XI.out⟩
 ·have hne:¬(o.length:Int)=(n:Int):=by omega
  have HD:Hid (¬OrdN o n):=fun h=>hlen h.1
  clear hlen
  go_enter Try.func30,Try.ntmps30
  go_wp2
  go_ret
  exact⟨TellB.no HD.out,Below.refl _ _⟩
end
section
variable {S:List Int} {F:List Phi} {w w':World} {B lb lc rc:Nat} {ra:Option Addr} {R:List Int} {Ls A X T:List LA} {b:LA} {most:Int} {o:List Int}
theorem DgX.keep (h:DgX w B ra lb lc R Ls) {c:Nat} {a1 a2:Option Addr} {n1 c1 n2 c2:Nat} (hc:w.heap[c]? =some (.cells #[.slice a1 n1 c1,.slice a2 n2 c2] 70 (0,0))) (hk:Kept (fun z=>z=c) w w'):DgX w' B ra lb lc R Ls:=by
 have hcell:∀ {b j:Nat} {u:Value},w.cell? ⟨b,j,none⟩=some u→(∀a n c,u≠.slice a n c)→b<w.heap.size→w'.cell? ⟨b,j,none⟩=some u:=fun {b j u} h1 h2 h3=>by
  refine(hk.cell (p:=⟨b,j,none⟩) h3 (fun e=>?_)).trans h1
  have e':b=c:=e
  subst e'
  rw[cell_of_row w b _ _ _ _ hc] at h1
  rcases j with _|_|j
  ·simp at h1;exact h2 _ _ _ h1.symm
  ·simp at h1;exact h2 _ _ _ h1.symm
  ·simp at h1
 have hblk:∀ {b:Nat} {cs:Array Value} {t:TypeId},w.heap[b]? =some (.cells cs t (0,0))→t≠70→w'.heap[b]? =some (.cells cs t (0,0)):=fun {b cs t} h1 h2=>(hk.block b (lt_of_block h1) (ty_ne h1 hc h2)).trans h1
 have hBw:=h.hB
 have hlt:=h.lay.lt
 refine⟨h.rts.imp id (fun⟨b,off,e,hb,hi⟩=>⟨b,off,e,hb,fun i hl=>hcell (hi i hl) (fun _ _ _ h=>by cases h) (by omega)⟩),⟨h.lay.lt,fun i hi=>⟨hcell (h.lay.cl i hi).1 (fun _ _ _ h=>by cases h) (by omega),?_⟩,fun x hx=>?_⟩,h.c1,h.c2,Nat.le_trans h.hB hk.size⟩
 ·refine(hk.cell (p:=⟨lb,(0+i)*2+1,none⟩) (by show lb<_;omega) (fun e=>?_)).trans (h.lay.cl i hi).2
  have e':lb=c:=e
  subst e'
  have h1:=(h.lay.cl i hi).1
  rw[cell_of_row w lb _ _ _ _ hc] at h1
  rcases i with _|i
  ·simp at h1
  ·rw[Array.getElem?_eq_none (by simp;omega)] at h1
   cases h1
 ·have y:=h.lay.ly x hx
  obtain⟨cs,h1,h2⟩:=y.blk
  refine⟨⟨cs,hblk h1 (by decide),h2⟩,y.lt,fun z hz=>⟨?_,(y.row z hz).2⟩,y.few⟩
  obtain⟨cs',h3,h4⟩:=(y.row z hz).1
  exact⟨cs',hblk h3 (by decide),h4⟩
def LuX (S:List Int) (F:List Phi) (ra:Option Addr) (rc:Nat) (R:List Int) (A X:List LA) (b:LA) (T:List LA) (most:Int) (r1:Option Addr) (n1 c1:Nat) (l1:Option Addr) (n2 c2:Nat) (bb:Bool) (w':World):Prop:=
 (bb=true→r1=ra∧n1=R.length∧c1=rc∧∃lb Ls',l1=some ⟨lb,0,none⟩∧n2=Ls'.length∧DgX w' w'.heap.size ra lb c2 R Ls'∧GD S F R (layL Ls')∧ordL Ls'=ordL A++b.lv::(ordL X++ordL T))∧
 (bb=false→Many S F R most (ordL A++[b.lv]))
theorem LuL.x {e:Ending} (h:LuL S F ra rc R A X b T most w e w'):∃r1 n1 c1 l1 n2 c2 bb,e=.returned (.tuple #[.agg #[.slice r1 n1 c1,.slice l1 n2 c2],.bool bb])∧LuX S F ra rc R A X b T most r1 n1 c1 l1 n2 c2 bb w'∧Below w.heap.size w w':=by
 obtain⟨r1,n1,c1,l1,n2,c2,bb,he,hb,ht,hf⟩:=h
 exact⟨r1,n1,c1,l1,n2,c2,bb,he,⟨ht,hf⟩,hb⟩
section
variable {r1 l1:Option Addr} {n1 c1 n2 c2:Nat} {bb:Bool}
theorem LuX.below (h:LuX S F ra rc R A X b T most r1 n1 c1 l1 n2 c2 bb w) (y:Below w.heap.size w w'):LuX S F ra rc R A X b T most r1 n1 c1 l1 n2 c2 bb w':=
 ⟨fun e=>by
   obtain⟨e1,e2,e3,lb',Ls',e4,e5,D,g1,g2⟩:=h.1 e
   exact⟨e1,e2,e3,lb',Ls',e4,e5,(D.below y).mono y.size (Nat.le_refl _),g1,g2⟩,h.2⟩
theorem LuX.store (h:LuX S F ra rc R A X b T most r1 n1 c1 l1 n2 c2 bb w) {c:Nat} {a1 a2:Option Addr} {m1 d1 m2 d2:Nat} (hc:w.heap[c]? =some (.cells #[.slice a1 m1 d1,.slice a2 m2 d2] 70 (0,0))) (hk:Kept (fun z=>z=c) w w'):LuX S F ra rc R A X b T most r1 n1 c1 l1 n2 c2 bb w':=
 ⟨fun e=>by
   obtain⟨e1,e2,e3,lb',Ls',e4,e5,D,g1,g2⟩:=h.1 e
   exact⟨e1,e2,e3,lb',Ls',e4,e5,(D.keep hc hk).mono hk.size (Nat.le_refl _),g1,g2⟩,h.2⟩
end
structure RbI (w wr:World) (dc:Nat) (S:List Int) (F:List Phi) (o:List Int) (ra:Option Addr) (rc:Nat) (R:List Int) (k lb lc:Nat) (Ls:List LA):Prop where
 blk:wr.heap[dc]? =some (.cells #[.slice ra R.length rc,.slice (some ⟨lb,0,none⟩) Ls.length lc] 70 (0,0))
 dg:DgX wr wr.heap.size ra lb lc R Ls
 gd:GD S F R (layL Ls)
 lev:(ordL Ls).take k=o.take k
 bel:Below w.heap.size w wr
theorem ordL_app:ordL (A++Ls)=ordL A++ordL Ls:=by simp
theorem ordL_length:(ordL Ls).length=Ls.length:=by simp
theorem ordL_get {i:Nat} (h:i<Ls.length):(ordL Ls)[i]? =some (Ls[i]).lv:=by
 rw[List.getElem?_map,List.getElem?_map,List.getElem?_eq_getElem h]
 rfl
theorem RbI.split {wr:World} {dc k:Nat} (h:RbI w wr dc S F o ra rc R k lb lc Ls) (ho:IsOrd S o) (hk:k<o.length):∃A X b T,Ls=A++(X++b::T)∧A.length=k∧b.lv=o[k]∧∀i (hi:i<Ls.length),i<k+X.length→(Ls[i]).lv≠o[k]:=by
 have hL:IsOrd S (ordL Ls):=h.gd.ord
 have hr:=ho.rng _ (List.getElem_mem hk)
 have hm:o[k]∈ordL Ls:=by
  have:=hL.mem (j:=(o[k]).toNat) (by omega)
  rwa [Int.toNat_of_nonneg hr.1] at this
 obtain⟨k0,hk0,e0⟩:=List.getElem_of_mem hm
 have hk0':k0<Ls.length:=by rw[ordL_length] at hk0;exact hk0
 have e1:(Ls[k0]).lv=o[k]:=by
  have:=ordL_get hk0'
  rw[List.getElem?_eq_getElem hk0,e0] at this
  exact(Option.some.inj this).symm
 have hkk:k≤k0:=by
  rcases Nat.lt_or_ge k0 k with hlt|hge
  ·exfalso
   have e2:(ordL Ls)[k0]? =o[k0]? :=by
    have:=congrArg (fun l=>l[k0]?) h.lev
    simpa [List.getElem?_take,hlt] using this
   rw[List.getElem?_eq_getElem hk0,e0,List.getElem?_eq_getElem (by omega:k0<o.length)] at e2
   have:=Option.some.inj e2
   exact List.pairwise_iff_getElem.1 ho.nod k0 k (by omega) hk hlt this.symm
  ·exact hge
 refine⟨Ls.take k,(Ls.drop k).take (k0-k),Ls[k0],Ls.drop (k0+1),?_,by rw[List.length_take];omega,e1,fun i hi hik e=>?_⟩
 ·have hx:Ls.drop k=(Ls.drop k).take (k0-k)++(Ls.drop k).drop (k0-k):=(List.take_append_drop _ _).symm
  rw[List.drop_drop,show k+(k0-k)=k0 by omega,List.drop_eq_getElem_cons hk0'] at hx
  rw[←hx,List.take_append_drop]
 ·have hik':i<k0:=by
   rw[List.length_take,List.length_drop] at hik
   omega
  have hi':i<(ordL Ls).length:=by rw[ordL_length];exact hi
  refine List.pairwise_iff_getElem.1 hL.nod i k0 hi' hk0 hik' ?_
  rw[e0,←e]
  have:=ordL_get hi
  rw[List.getElem?_eq_getElem hi'] at this
  exact Option.some.inj this
theorem RbI.head {wr:World} {dc k:Nat} (h:RbI w wr dc S F o ra rc R k lb lc (A++(X++b::T))) (hA:A.length=k):ordL A=o.take k:=by
 rw[←h.lev,ordL_app,List.take_append,List.take_of_length_le (by rw[ordL_length];omega),ordL_length,hA,Nat.sub_self,List.take_zero,List.append_nil]
theorem head_next {k:Nat} (hA:ordL A=o.take k) (hk:k<o.length) (hb:b.lv=o[k]):ordL A++[b.lv]=o.take (k+1):=by
 rw[hA,hb,List.take_succ_eq_append_getElem hk]
theorem Many.full {k:Nat} (hS:SzOk S) (ho:IsOrd S o) {L:List Lay} (G:GD S F R L) (h0:0≤most) (h8:most≤8192) (hk:k≤o.length) (h:Many S F R most (o.take k)):(foldF S most F o).2.1=2:=by
 obtain⟨L',G',e⟩:=order_ex hS ho G
 have h1:=h L' G' k (by have:=G'.len;have:=ho.len;omega) (fun lv=>by rw[e])
 have:=fold_full hS G' (most:=most.toNat) (by omega) (by omega)
 rwa [e,Int.toNat_of_nonneg h0] at this
theorem RbI.step {wr wx wy:World} {dc k:Nat} {c2 lb':Nat} {Ls':List LA} (h:RbI w wr dc S F o ra rc R k lb lc (A++(X++b::T))) (hA:A.length=k) (hk:k<o.length) (hb:b.lv=o[k]) (hdc:w.heap.size≤dc) (hx:Below wr.heap.size wr wx) (D:DgX wx wx.heap.size ra lb' c2 R Ls') (G:GD S F R (layL Ls')) (e:ordL Ls'=ordL A++b.lv::(ordL X++ordL T))
 (hy:wy=(wx.setCell ⟨dc,0,none⟩ (.slice ra R.length rc)).setCell ⟨dc,1,none⟩ (.slice (some ⟨lb',0,none⟩) Ls'.length c2)):RbI w wy dc S F o ra rc R (k+1) lb' c2 Ls':=by
 have hblk:=(hx.block dc (lt_of_block h.blk)).trans h.blk
 have hk7:Kept (fun z=>z=dc) wx wy:=by rw[hy];exact((Kept.refl (fun z=>z=dc) wx).setCell (p:=⟨dc,0,none⟩) rfl _).setCell (p:=⟨dc,1,none⟩) rfl _
 refine⟨?_,(D.keep hblk hk7).mono hk7.size (Nat.le_refl _),G,?_,?_⟩
 ·rw[hy]
  have:=block_setCell (block_setCell hblk 0 (.slice ra R.length rc)) 1 (.slice (some ⟨lb',0,none⟩) Ls'.length c2)
  simpa using this
 ·rw[e,←head_next (h.head hA) hk hb]
  have hl:(ordL A++[b.lv]).length=k+1:=by rw[List.length_append,ordL_length,hA];rfl
  rw[show ordL A++b.lv::(ordL X++ordL T)=(ordL A++[b.lv])++(ordL X++ordL T) by simp,List.take_append,hl,Nat.sub_self,List.take_zero,List.append_nil,List.take_of_length_le (by omega)]
 ·have x1:=bt h.bel hx (Nat.le_refl _)
  exact x1.trans (hk7.below x1.size (fun z hz=>by rw[hz];exact hdc))
theorem RbI.done {wr:World} {dc:Nat} (h:RbI w wr dc S F o ra rc R o.length lb lc Ls) (ho:IsOrd S o):ordL Ls=o:=by
 have h1:=h.lev
 have h2:=ho.len
 have h3:(ordL Ls).length=S.length:=(h.gd.ord).len
 rwa [List.take_length,List.take_of_length_le (by rw[ordL_length];rw[ordL_length] at h3;omega)] at h1
def RbL (S:List Int) (M:Int) (F:List Phi) (o:List Int) (n:Nat) (w:World) (e:Ending) (w':World):Prop:=
 (((foldF S M F o).2.1=0∧∃a g c P,e=.returned (.tuple #[.pointer (some ⟨a,0,none⟩),.slice (some ⟨g,0,none⟩) n c,.int .i64 0])∧RwZ w' g (foldF S M F o).1∧CA w' a (ledS S o) M (foldF S M F o).2.2 (foldF S M F o).2.2.length P∧(∀k,P k→w.heap.size≤k)∧¬P g∧w.heap.size≤g∧c=n)∨
  ((foldF S M F o).2.1≠0∧e=.returned (.tuple #[.pointer none,.slice none 0 0,.int .i64 (foldF S M F o).2.1])))∧Below w.heap.size w w'∧∃R L,GD S F R L
theorem RbI.build {wr:World} {dc:Nat} (h:RbI w wr dc S F o ra rc R o.length lb lc Ls) (hS:SzOk S) (hm:Sml S F) (ho:IsOrd S o) (h0:0≤most) (h8:most≤8192) (hR:R.length≤268435456):
 Calls Try.prog 34 #[dgV ra R.length rc lb Ls.length lc,.int .i64 most] wr fun e w'=>RbL S most F o R.length w e w':=by
 have G:=h.gd
 have hLn:Ls.length=S.length:=by have:=G.len;rwa [List.length_map] at this
 have e0:=h.done ho
 refine(build_any (rc:=rc) hS G.wf hLn h0 h8 h.dg (fun r hr=>?_) hR (fun y hy=>?_)).mono (fun e w' ⟨hor,hb⟩=>?_)
 ·obtain⟨k,hk,rfl⟩:=List.getElem_of_mem hr
  have:=(G.rt k (by rw[←G.rl];exact hk)).1
  rwa [List.getD_eq_getElem?_getD,List.getElem?_eq_getElem hk] at this
 ·obtain⟨P,Q,rfl⟩:=List.append_of_mem hy
  have:=G.rows_le hS hm (A:=layL P) (l:=y.lay) (T:=layL Q) (by simp)
  have e:y.lay.2.length=y.Rs.length:=by simp[LA.lay,rdR]
  omega
 ·have hf:kidsF (ins (ledS S (ordL Ls)) most) [] (R.map (rowF (ordL Ls) (layL Ls)))=foldF S most F o:=by
   rw[fold_rows G (Ok.nil (ledS_ok hS G.ord) h0 h8)]
   rw[show(layL Ls).map (·.1)=o from e0]
   rfl
  rw[hf,e0] at hor
  have hsz:=h.bel.size
  refine⟨?_,bt h.bel hb (Nat.le_refl _),_,_,G⟩
  rcases hor with⟨e1,a,g,c,P,e2,e3,e4,e5,e6,e7,e8⟩|⟨e1,e2⟩
  ·exact .inl ⟨e1,a,g,c,P,e2,e3,e4,fun k hk=>Nat.le_trans hsz (e5 k hk),e6,by omega,e8⟩
  ·exact .inr ⟨e1,e2⟩
end
def mv (E:List Int) (v:Int) (q:Nat):List Int:=E.take q++v::E.drop q
section
variable {E:List Int} {v:Int} {t q:Nat} {S:List Int} {F:List Phi} {R:List Int} {most:Int}
theorem mv_length:(mv E v q).length=E.length+1:=by simp[mv];omega
theorem mv_low (h:t<E.length):mv E v t=E.take t++v::E[t]::E.drop (t+1):=by rw[mv,List.drop_eq_getElem_cons h]
theorem mv_high (h:t<E.length):mv E v (t+1)=E.take t++E[t]::v::E.drop (t+1):=by rw[mv,List.take_succ_eq_append_getElem h,List.append_assoc];rfl
def MoreN (S:List Int) (F:List Phi) (R:List Int) (most:Int) (o:List Int):Prop:=∀L',GD S F R L'→L'.map (·.1)=o→most<(nodesL L':Int)
theorem many_ahead (h:Many S F R most (E.take t++[v])) (ht:t≤E.length) (hq:q≤t):MoreN S F R most (mv E v q):=fun L' G' e=>by
 have hl:=congrArg List.length e
 rw[List.length_map,mv_length] at hl
 refine h L' G' (t+1) (by omega) (fun lv=>?_)
 have e1:(mv E v q).take (t+1)=E.take q++v::(E.drop q).take (t-q):=by
  rw[mv,List.take_append,List.take_of_length_le (by rw[List.length_take];omega),List.length_take,Nat.min_eq_left (by omega),show t+1-q=(t-q)+1 by omega]
  rfl
 have e2:E.take t=E.take q++(E.drop q).take (t-q):=by
  rw[←List.take_add,show q+(t-q)=t by omega]
 rw[e,e1,e2]
 simp only[List.mem_append,List.mem_cons,List.not_mem_nil,or_false]
 constructor
 ·rintro(h|h|h)
  ·exact .inl (.inl h)
  ·exact .inr h
  ·exact .inl (.inr h)
 ·rintro((h|h)|h)
  ·exact .inl h
  ·exact .inr (.inr h)
  ·exact .inr (.inl h)
theorem many_behind (ht:t<E.length) (h:Many S F R most (E.take t++[E[t]])) (hq:t<q) (hq2:q≤E.length):MoreN S F R most (mv E v q):=fun L' G' e=>by
 have hl:=congrArg List.length e
 rw[List.length_map,mv_length] at hl
 refine h L' G' (t+1) (by omega) (fun lv=>?_)
 rw[e,mv,List.take_append,List.take_take,List.length_take,Nat.min_eq_left (by omega),Nat.min_eq_left (by omega),show t+1-q=0 by omega,List.take_zero,List.append_nil,List.take_succ_eq_append_getElem ht]
theorem pair_of {Ls:List LA} {l1 l2:List Int} {y1 y2:Int} (h:ordL Ls=l1++y1::y2::l2):∃A x b T,Ls=A++([x]++b::T)∧ordL A=l1∧x.lv=y1∧b.lv=y2∧ordL T=l2:=by
 have h':Ls.map LA.lv=l1++y1::y2::l2:=by rw[←h];simp[LA.lay]
 obtain⟨A,B,e,eA,eB⟩:=List.map_eq_append_iff.1 h'
 obtain⟨x,B1,rfl,ex,eB1⟩:=List.map_eq_cons_iff.1 eB
 obtain⟨b,T,rfl,eb,eT⟩:=List.map_eq_cons_iff.1 eB1
 exact⟨A,x,b,T,by rw[e];rfl,by rw[←eA];simp[LA.lay],ex,eb,by rw[←eT];simp[LA.lay]⟩
end
structure DX where
 lb:Nat
 lc:Nat
 Ls:List LA
def encD (ra:Option Addr) (rc:Nat) (R:List Int) (x:DX):Array Value:=#[dgV ra R.length rc x.lb x.Ls.length x.lc]
def PxD (S:List Int) (F:List Phi) (ra:Option Addr) (R:List Int) (od:Nat→List Int) (k:Nat) (x:DX) (w:World):Prop:=DgX w w.heap.size ra x.lb x.lc R x.Ls∧GD S F R (layL x.Ls)∧ordL x.Ls=od k∧k≤12
def SxD (S:List Int) (F:List Phi) (R:List Int) (od:Nat→List Int) (xs:List DX):Prop:=∀k (h:k<xs.length),GD S F R (layL (xs[k]).Ls)∧ordL (xs[k]).Ls=od k
section
variable {S:List Int} {F:List Phi} {R:List Int} {ra:Option Addr} {od:Nat→List Int} {xs:List DX} {x:DX}
theorem SxD.nil:SxD S F R od []:=fun k h=>by simp at h
theorem SxD.push (h:SxD S F R od xs) (g:GD S F R (layL x.Ls)) (e:ordL x.Ls=od xs.length):SxD S F R od (xs++[x]):=fun k hk=>by
 rcases Nat.lt_or_ge k xs.length with h1|h1
 ·rw[List.getElem_append_left h1]
  exact h k h1
 ·have:k=xs.length:=by rw[List.length_append,List.length_singleton] at hk;omega
  subst this
  have e0:(xs++[x])[xs.length]'hk=x:=by simp
  rw[e0]
  exact⟨g,e⟩
end
def SAh (S:List Int) (F:List Phi) (R:List Int) (most:Int) (E:List Int) (v:Int) (p:Nat) (xs:List DX):Prop:=
 SxD S F R (fun k=>mv E v (p-(k+1))) xs∧xs.length≤p∧∀q,q<p-xs.length→MoreN S F R most (mv E v q)
def SBh (S:List Int) (F:List Phi) (R:List Int) (most:Int) (E:List Int) (v:Int) (p:Nat) (xs:List DX):Prop:=
 SxD S F R (fun k=>mv E v (p+(k+1))) xs∧p+xs.length≤E.length∧∀q,p+xs.length<q→q≤E.length→MoreN S F R most (mv E v q)
end Go.Proofs.Ytnddhkhmbjeefaa

