/-
  How many rows a diagram's layers have at most. In pure words; of no program: at most 7 levels of at most 4 classes, at most 4095 functions.
-/
import Derived.Test.YtnddhkhmbjeefaaC18
import Derived.Test.YtnddhkhmbjeefaaC16
import Derived.Test.YtnddhkhmbjeefaaC17
import Derived.Deep.OwnRows
import Derived.Test.YtnddhkhmbjeefaaC11
import Derived.Laws.EntriesVeiled
namespace Go.Proofs.Ytnddhkhmbjeefaa
open Go.RowKit
def encQ (s:Nat):List Int→(Nat→Nat)→Nat
 |[],_=>0
 |a::A,q=>q a.toNat+s*encQ s A q
theorem enc_lt {s:Nat} {q:Nat→Nat}:∀ {A:List Int},(∀a∈A,q a.toNat<s)→encQ s A q<s^A.length
 |[],_=>by simp[encQ]
 |a::A,h=>by
  have h1:=h a (by simp)
  have h2:=enc_lt (A:=A) (fun b hb=>h b (by simp[hb]))
  have h3:=Nat.mul_le_mul_left s (Nat.succ_le_of_lt h2)
  rw[Nat.mul_succ] at h3
  simp only[encQ,List.length_cons,Nat.pow_succ]
  rw[Nat.mul_comm (s^A.length) s]
  omega
theorem enc_inj {s:Nat} {q q':Nat→Nat}:∀ {A:List Int},(∀a∈A,q a.toNat<s)→(∀a∈A,q' a.toNat<s)→encQ s A q=encQ s A q'→∀a∈A,q a.toNat=q' a.toNat
 |[],_,_,_,a,h=>by simp at h
 |a::A,h,h',e,x,hx=>by
  have h1:=h a (by simp)
  have h2:=h' a (by simp)
  simp only[encQ] at e
  have e1:(q a.toNat+s*encQ s A q)%s=(q' a.toNat+s*encQ s A q')%s:=by rw[e]
  rw[Nat.add_mul_mod_self_left,Nat.add_mul_mod_self_left,Nat.mod_eq_of_lt h1,Nat.mod_eq_of_lt h2] at e1
  have e2:s*encQ s A q=s*encQ s A q':=by omega
  have e3:=Nat.eq_of_mul_eq_mul_left (by omega:0<s) e2
  rcases List.mem_cons.1 hx with rfl|hm
  ·exact e1
  ·exact enc_inj (fun b hb=>h b (by simp[hb])) (fun b hb=>h' b (by simp[hb])) e3 x hm
structure Sml (S:List Int) (F:List Phi):Prop where
 len:S.length≤7
 few:∀x∈S,x≤4
 fns:∃Gs:List Phi,Gs.length≤4095∧∀φ∈F,φ∈Gs
section
variable {S:List Int} {F:List Phi} {R:List Int} {L:List Lay}
theorem Sml.sz (h:Sml S F) (lv:Int):szL S lv≤4:=by
 show S.getD lv.toNat 0≤4
 rcases Nat.lt_or_ge lv.toNat S.length with hl|hl
 ·rw[List.getD_eq_getElem?_getD,List.getElem?_eq_getElem hl];exact h.few _ (List.getElem_mem _)
 ·rw[List.getD_eq_getElem?_getD,List.getElem?_eq_none hl];simp
theorem GD.rows_le (hS:SzOk S) (hm:Sml S F) (G:GD S F R L) {A:List Lay} {l:Lay} {T:List Lay} (e:L=A++l::T):l.2.length≤16777216:=by
 obtain⟨Gs,hG,hF⟩:=hm.fns
 have hA:A.length≤6:=by
  have h1:=G.len
  rw[e,List.length_append,List.length_cons] at h1
  have:=hm.len
  omega
 have hw:Wf S (l::T):=by
  have:=G.wf
  rw[e] at this
  exact this.tail
 have hK0:0<4^A.length:=Nat.pow_pos (by omega)
 have hK:4^A.length≤4^6:=Nat.pow_le_pow_right (by omega) hA
 have hlvA:∀a∈A.map (·.1),0≤a∧a<(S.length:Int):=fun a ha=>G.wf.ge a (by rw[e,List.map_append];exact List.mem_append_left _ ha)
 have hq4:∀ {q:Nat→Nat},Pnt S q→∀a∈A.map (·.1),q a.toNat<4:=fun {q} hq a ha=>by
  have h1:=hlvA a ha
  have h2:=hq a.toNat (by omega)
  have h3:S.getD a.toNat 0≤4:=hm.sz a
  omega
 have:=pigR (R:=fun(x b:Nat)=>∃q,Pnt S q∧∃φ,Gs[b/4^A.length]? =some φ∧encQ 4 (A.map (·.1)) q=b%4^A.length∧∀p,Pnt S p→sayL (l::T) ((x:Int)+2) p=φ (mixP (A.map (·.1)) q p)) (List.range (l.2.length-2)) (List.range (Gs.length*4^A.length)) List.nodup_range (fun x hx=>by
  have hx':=List.mem_range.1 hx
  obtain⟨k,hk,q,hq,hs⟩:=G.rch A l T e ((x:Int)+2) (by omega) (by omega)
  obtain⟨i,hi,ei⟩:=List.getElem_of_mem (hF _ (List.getElem_mem hk))
  have hlt:encQ 4 (A.map (·.1)) q<4^A.length:=by
   have:=enc_lt (s:=4) (hq4 hq)
   rwa [List.length_map] at this
  refine⟨i*4^A.length+encQ 4 (A.map (·.1)) q,List.mem_range.2 ?_,q,hq,F[k],?_,?_,hs⟩
  ·have h1:=Nat.mul_le_mul_right (4^A.length) (Nat.succ_le_of_lt hi)
   rw[Nat.succ_mul] at h1
   omega
  ·rw[show(i*4^A.length+encQ 4 (A.map (·.1)) q)/4^A.length=i by
    rw[Nat.mul_comm,Nat.mul_add_div hK0,Nat.div_eq_of_lt hlt,Nat.add_zero],List.getElem?_eq_getElem hi,ei]
  ·rw[Nat.mul_comm,Nat.mul_add_mod,Nat.mod_eq_of_lt hlt]) (fun x hx y hy b ⟨q,hq,φ,e1,e2,e3⟩ ⟨q',hq',φ',e1',e2',e3'⟩=>by
  have hx':=List.mem_range.1 hx
  have hy':=List.mem_range.1 hy
  rw[e1] at e1'
  cases e1'
  have hqq:=enc_inj (hq4 hq) (hq4 hq') (e2.trans e2'.symm)
  have:=say_ne hS hw (x:=(x:Int)+2) (y:=(y:Int)+2) ⟨by omega,by show _<(l.2.length:Int);omega⟩ ⟨by omega,by show _<(l.2.length:Int);omega⟩ (fun p hp=>by
   rw[e3 p hp,e3' p hp]
   refine congrArg _ (funext fun j=>?_)
   by_cases hj:(j:Int)∈A.map (·.1)
   ·rw[mix_in hj,mix_in hj]
    have:=hqq _ hj
    simpa using this
   ·rw[mix_out hj,mix_out hj])
  omega)
 rw[List.length_range,List.length_range] at this
 have h4:Gs.length*4^A.length≤4095*4^6:=Nat.mul_le_mul hG hK
 omega
theorem GD.wid_le (hS:SzOk S) (hm:Sml S F) {A T:List Lay} (G:GD S F R (A++T)):wid T≤16777216:=by
 cases T with
 |nil=>simp[wid]
 |cons l T=>exact G.rows_le hS hm rfl
theorem give_up (hS:SzOk S) {A X T Y:List Lay} {b:Lay} (G:GD S F R (A++(X++b::T))) (h0:0<X.length) (h:TInv S X b T Y) {most:Nat} (h8:most≤8192) (hw:most+2<wid (Y++T)) {L':List Lay} (G':GD S F R L') {m:Nat} (hm:m≤L'.length) (ht:∀lv,lv∈(L'.map (·.1)).take m↔lv=b.1∨lv∈A.map (·.1)):most<nodesL L':=by
 refine many_nodes hS G' (W:=Y++T) h.wf hm h8 hw (fun x h2 hx=>?_)
 obtain⟨k,hk,q,hq,hs⟩:=h.reach hS G (i:=0) h0 h2 hx
 refine⟨k,hk,q,hq,fun p hp=>(hs p hp).trans ?_⟩
 refine congrArg _ (mix_perm (fun lv=>?_))
 rw[ht]
 simp[or_comm]
theorem fold_full (hS:SzOk S) {L':List Lay} (G':GD S F R L') {most:Nat} (h8:most≤8192) (hm:most<nodesL L'):(foldF S most F (L'.map (·.1))).2.1=2:=by
 rcases fold_nodes hS G' (M:=(most:Int)) (by omega) (by omega) with⟨e,hn⟩|⟨e,_⟩
 ·have o:=fold_out hS G' (M:=(most:Int)) (by omega) (by omega)
  have:=o.ok.few
  omega
 ·exact e
end
end Go.Proofs.Ytnddhkhmbjeefaa
namespace Go.Proofs.Ytnddhkhmbjeefaa
open Go.RowKit Go.Lib Go.Maps
def Many (S:List Int) (F:List Phi) (R:List Int) (most:Int) (l:List Int):Prop:=
 ∀L',GD S F R L'→∀m,m≤L'.length→(∀lv,lv∈(L'.map (·.1)).take m↔lv∈l)→most<(nodesL L':Int)
def LuL (S:List Int) (F:List Phi) (ra:Option Addr) (rc:Nat) (R:List Int) (A X:List LA) (b:LA) (T:List LA) (most:Int) (w:World) (e:Ending) (w':World):Prop:=
 ∃r1 n1 c1 l1 n2 c2 bb,e=.returned (.tuple #[.agg #[.slice r1 n1 c1,.slice l1 n2 c2],.bool bb])∧Below w.heap.size w w'∧
  (bb=true→r1=ra∧n1=R.length∧c1=rc∧∃lb Ls',l1=some ⟨lb,0,none⟩∧n2=Ls'.length∧DgX w' w'.heap.size ra lb c2 R Ls'∧GD S F R (layL Ls')∧ordL Ls'=ordL A++b.lv::(ordL X++ordL T))∧
  (bb=false→Many S F R most (ordL A++[b.lv]))
section
variable {S:List Int} {F:List Phi} {w:World} {B lb lc rc:Nat} {ra:Option Addr} {R:List Int} {A X T:List LA} {b:LA} {most:Int}
theorem layL_mid:layL (A++(X++b::T))=layL A++(layL X++b.lay::layL T):=by simp
theorem lift_u (hS:SzOk S) (hm:Sml S F) (G:GD S F R (layL (A++(X++b::T)))) (D:DgX w B ra lb lc R (A++(X++b::T))) (hm1: -1≤most) (h8:most≤8192):
 Calls Try.prog 32 #[dgV ra R.length rc lb (A++(X++b::T)).length lc,.int .i64 ((A.length+X.length:Nat):Int),.int .i64 (A.length:Int),.int .i64 most] w fun e w'=>LuL S F ra rc R A X b T most w e w':=by
 by_cases hX:X=[]
 ·subst hX
  refine Calls.mono (lift_same (A.length:Int) most) (fun e w' ⟨he,hb⟩=>?_)
  exact⟨_,_,_,_,_,_,_,he,hb,fun _=>⟨rfl,rfl,rfl,lb,_,rfl,rfl,(D.below (hb.mono D.hB)).mono (Nat.le_trans D.hB hb.size) (Nat.le_refl _),G,by simp[LA.lay]⟩,fun h=>by cases h⟩
 ·have h0:0<X.length:=List.length_pos_iff.2 hX
  have G1:=G
  rw[layL_mid] at G1
  have hsz:=hm.sz b.lv
  have hn:=G.len
  rw[List.length_map] at hn
  have h7:=hm.len
  have hwx:∀i,i≤(layL X).length→wid ((layL X).drop i++b.lay::layL T)≤16777216:=fun i _=>by
   refine GD.wid_le hS hm (A:=layL A++(layL X).take i) (T:=(layL X).drop i++b.lay::layL T) (F:=F) (R:=R) ?_
   rw[List.append_assoc,←List.append_assoc _ ((layL X).drop i),List.take_append_drop]
   exact G1
  have hwt:wid (layL T)≤16777216:=by
   refine GD.wid_le hS hm (A:=layL A++(layL X++[b.lay])) (F:=F) (R:=R) ?_
   simpa using G1
  have h4:(szL S b.lv).toNat≤4:=by omega
  have hfew:(16777216+1)*(szL S b.lv).toNat≤(16777216+1)*4:=Nat.mul_le_mul_left _ h4
  have hB:LfB S (layL X) b.lay (layL T) 16777216:=⟨hS,G1.wf.tail,hwx,hwt,by show(16777216+1)*(szL S b.lv).toNat+2<_;omega⟩
  refine Calls.mono (lift_any hB (by omega) D h0 (by omega)) (fun e w' ⟨r1,n1,c1,l1,n2,c2,bb,he,hb,ht,hf⟩=>?_)
  refine⟨r1,n1,c1,l1,n2,c2,bb,he,hb,fun h=>?_,fun h=>?_⟩
  ·obtain⟨e1,e2,e3,e4,lb',Ls',Y,fr,e5,D',e6,hI,hl,hs⟩:=ht h
   have G2:=lift_good hS G1 hI hl hs
   have hY:Y.map (·.1)=ordL X:=hI.lv
   refine⟨e1,e2,e3,lb',Ls',e5,?_,D',by rw[e6];exact G2,?_⟩
   ·have:=congrArg List.length e6
    have hYl:=hI.len
    simp only[List.length_map,List.length_append,List.length_cons] at this e4 hYl ⊢
    omega
   ·show(layL Ls').map (·.1)=_
    rw[e6]
    simp only[List.map_append,List.map_cons,hY]
  ·obtain⟨Y,hI,hw⟩:=hf h
   intro L' G' m hml ht
   by_cases h0m:0≤most
   ·have:=give_up hS G1 (by simpa using h0) hI (most:=most.toNat) (by omega) (by omega) G' hml (fun lv=>by rw[ht];simp[LA.lay,or_comm])
    omega
   ·omega
end
def RwZ (w:World) (b:Nat) (L:List Int):Prop:=w.heap[b]? =some (.cells (zC L).toArray 3 (0,0))
theorem RwZ.lt {w:World} {b:Nat} {L:List Int} (h:RwZ w b L):b<w.heap.size:=lt_of_block h
theorem RwZ.zbk {w:World} {b:Nat} {L:List Int} (h:RwZ w b L):ZBk w b L:=⟨_,h,fun i hi=>by rw[List.getElem?_toArray,zC_get L hi]⟩
theorem RwZ.kept {F:Nat→Prop} {w w':World} {b:Nat} {L:List Int} (h:RwZ w b L) (hk:Kept F w w') (hF:¬F b):RwZ w' b L:=(hk.block b h.lt hF).trans h
theorem RwZ.below {w w':World} {b:Nat} {L:List Int} (h:RwZ w b L) (hk:Below w.heap.size w w'):RwZ w' b L:=(hk.block b h.lt).trans h
theorem RwZ.set {w:World} {b:Nat} {L:List Int} (h:RwZ w b L) (k:Nat) (x:Int):RwZ (w.setCell ⟨b,k,none⟩ (.int .i64 x)) b (L.set k x):=by
 unfold RwZ
 rw[block_setCell h k]
 congr 2
 apply Array.ext'
 simp[zC,List.map_set]
theorem RwZ.cell {w:World} {b:Nat} {L:List Int} (h:RwZ w b L) {k:Nat} (hk:k<L.length):w.cell? ⟨b,k,none⟩=some (.int .i64 (L.getD k 0)):=h.zbk.cell hk
theorem RwZ.fro {w:World} {b:Nat} {L:List Int} (h:RwZ w b L) (k:Nat):w.frozen? ⟨b,k,none⟩=false:=frozen_of_row w b k _ _ h
theorem make_ints (n:Nat) (L:Int) (hL:L=(n:Int)) (hn:n≤1073741824) (V:World):(Instr.makeSlice 22 (.int .i64 L) (.int .i64 L)).run Try.prog V=.ok (.slice (some ⟨V.heap.size,0,none⟩) n n) (V.alloc (.cells (zC (List.replicate n 0)).toArray 3)):=by
 subst hL
 have:=run_make_row' (P:=Try.prog) 22 3 (.int .i64 0) 8 Try.underlying22 Try.info3 rfl .i64 .i64 n (by omega) (by omega) V
 rw[made_cells] at this
 rw[this]
 simp[zC]
theorem RwZ.made (V:World) (L:List Int):RwZ (V.alloc (.cells (zC L).toArray 3)) V.heap.size L:=heap_alloc_new V _
def bC (L:List Bool):List Value:=L.map Value.bool
theorem bC_get (L:List Bool) {i:Nat} (h:i<L.length):(bC L)[i]? =some (.bool (L.getD i false)):=by simp[bC,h,List.getD_eq_getElem?_getD]
theorem Try.info4:(Try.prog.info? 4).map (fun i=>(i.zero,i.size,i.bytes))=some (some (.bool false),1,1):=by kernel_rfl
theorem make_bools (n:Nat) (L:Int) (hL:L=(n:Int)) (hn:n≤16777217) (V:World):(Instr.makeSlice 94 (.int .i64 L) (.int .i64 L)).run Try.prog V=.ok (.slice (some ⟨V.heap.size,0,none⟩) n n) (V.alloc (.cells (bC (List.replicate n false)).toArray 4)):=by
 subst hL
 have:=run_make_row' (P:=Try.prog) 94 4 (.bool false) 1 Try.underlying94 Try.info4 rfl .i64 .i64 n (by omega) (by omega) V
 rw[made_cells] at this
 rw[this]
 simp[bC]
section
variable {w:World} {B lb lc rc:Nat} {ra:Option Addr} {R:List Int} {Ls:List LA}
theorem LaysAt.at0 (h:LaysAt w B lb 0 Ls) {i:Nat} (hi:i<Ls.length):w.cell? ⟨lb,i*2,none⟩=some (.int .i64 (Ls[i]).lv)∧w.cell? ⟨lb,i*2+1,none⟩=some (.slice (some ⟨(Ls[i]).rb,0,none⟩) (Ls[i]).Rs.length (Ls[i]).rc):=by
 have:=h.cl i hi
 rw[Nat.zero_add] at this
 exact this
set_option maxRecDepth 100000 in
set_option maxHeartbeats 1000000 in
theorem pof1_any (w:World) (bx:Nat) (lv v:Int) (y:Option Addr) (yn yc:Nat) (hb:w.cell? ⟨bx,0,none⟩=some (.int .i64 v)):
 Calls Try.prog 61 #[.agg #[.int .i64 lv,.slice y yn yc],.pointer (some ⟨bx,0,none⟩)] w fun e w'=>e=.returned (.bool (lv==v))∧Below w.heap.size w w':=by
 have hbl:=World.block_lt_of_cell? _ _ hb
 have X1:Hid (Below w.heap.size w (w.alloc (.cells #[.int .i64 lv,.slice y yn yc] 105))):=al (Below.refl _ _) _
 have hb1:=(X1.out.cell (p:=⟨bx,0,none⟩) hbl).trans hb
 have hb2:(w.alloc (.cells #[.int .i64 lv,.slice y yn yc] 105)).cell? ⟨w.heap.size,0,none⟩=some (.int .i64 lv):=by simp
 go_enter Try.func61,Try.ntmps61
 go_upto_region 1 with fail
 generalize w.alloc (.cells #[.int .i64 lv,.slice y yn yc] 105)=w1 at *
 go_wp2
 go_ret
 exact⟨rfl,X1.out⟩
set_option maxRecDepth 100000 in
set_option maxHeartbeats 2000000 in
theorem indexL_any {bx cap:Nat} {v:Int} (hl:Ls.length≤12) (h:LaysAt w B lb 0 Ls) (hB:B≤w.heap.size) (hb:w.cell? ⟨bx,0,none⟩=some (.int .i64 v)) {k0:Nat} (hk:k0<Ls.length) (hv:(Ls[k0]).lv=v) (hn:∀i (hi:i<k0),(Ls[i]).lv≠v):
 Calls Try.prog 60 #[.slice (some ⟨lb,0,none⟩) Ls.length cap,.func (.func 61) #[] #[.pointer (some ⟨bx,0,none⟩)]] w fun e w'=>e=.returned (.int .i64 (k0:Int))∧Below w.heap.size w w':=by
 have HL:=hide h
 have HV:=hide hv
 have HN:=hide hn
 have HBX:=hide hb
 have hbl:=World.block_lt_of_cell? _ _ hb
 have he:∀args w,(callFunc 61 args).run Try.prog w=.ok (.enter 61 args) w:=fun args w=>rfl
 clear h hv hn hb
 go_enter Try.func60,Try.ntmps60
 go_wp2
 go_loopw [8] (fun x wr=>∃k:Nat,k≤k0∧x=.int .i64 (k:Int)∧Hid (Below w.heap.size w wr)) (fun x _=>k0+1-(RowKit.intOf x).toNat)
 case atStart=>exact⟨0,Nat.zero_le _,rfl,hide (Below.refl _ _)⟩
 case round=>
  obtain⟨k,hkk,rfl,XB⟩:=hrel
  have hkl:k<Ls.length:=by omega
  have hkl':(k:Int)<(Ls.length:Int):=by omega
  obtain⟨q0,q1⟩:=(HL.out.below (XB.out.mono hB)).at0 hkl
  have P1:=hide (pof1_any wr bx (Ls[k]).lv v (some ⟨(Ls[k]).rb,0,none⟩) (Ls[k]).Rs.length (Ls[k]).rc ((XB.out.cell (p:=⟨bx,0,none⟩) hbl).trans HBX.out))
  by_cases hkk0:k=k0
  ·have hd:((Ls[k]).lv==v)=true:=by subst hkk0;simp[HV.out]
   rw[hd] at P1
   have HK:=hide hkk0
   clear hd hkk0
   go_wp2_with (fail)
   refine P1.out.mono ?_
   rintro e w3 ⟨rfl,x3⟩
   have X3:=hide (bt XB.out x3 (Nat.le_refl _))
   clear P1 x3 q0 q1
   go_wp2
   go_ret
   exact⟨by rw[←HK.out];rfl,X3.out⟩
  ·have hd:((Ls[k]).lv==v)=false:=by
    have:=HN.out k (by omega)
    simp[this]
   rw[hd] at P1
   clear hd
   go_wp2_with (fail)
   refine P1.out.mono ?_
   rintro e w3 ⟨rfl,x3⟩
   have X3:=hide (bt XB.out x3 (Nat.le_refl _))
   clear P1 x3 q0 q1
   go_wp2
   go_roundw
   case rel=>exact⟨k+1,by omega,by go_num,X3⟩
   case measure=>simp[RowKit.intOf];omega
set_option maxRecDepth 100000 in
set_option maxHeartbeats 2000000 in
theorem placeOf_any {v:Int} (hl:Ls.length≤12) (D:DgX w B ra lb lc R Ls) {k0:Nat} (hk:k0<Ls.length) (hv:(Ls[k0]).lv=v) (hn:∀i (hi:i<k0),(Ls[i]).lv≠v):
 Calls Try.prog 33 #[dgV ra R.length rc lb Ls.length lc,.int .i64 v] w fun e w'=>e=.returned (.int .i64 (k0:Int))∧Below w.heap.size w w':=by
 have hmf:∀(fn:Fn) (first cap:Array Value) (w:World),(Instr.makeFunc fn first cap).run Try.prog w=.ok (.func fn first cap) w:=fun _ _ _ _=>rfl
 have X1:Hid (Below w.heap.size w ((w.alloc (.cells #[.slice ra R.length rc,.slice (some ⟨lb,0,none⟩) Ls.length lc] 70)).alloc (.cells #[.int .i64 v] 3))):=al (al (Below.refl _ _) _) _
 have c1:((w.alloc (.cells #[.slice ra R.length rc,.slice (some ⟨lb,0,none⟩) Ls.length lc] 70)).alloc (.cells #[.int .i64 v] 3)).cell? ⟨w.heap.size,1,none⟩=some (.slice (some ⟨lb,0,none⟩) Ls.length lc):=by
  have h1:=((al (Below.refl _ (w.alloc (.cells #[.slice ra R.length rc,.slice (some ⟨lb,0,none⟩) Ls.length lc] 70))) (.cells #[.int .i64 v] 3)).block w.heap.size (by simp)).trans (heap_alloc_new w _)
  rw[cell_of_row _ _ _ _ _ _ h1]
  rfl
 have c2:((w.alloc (.cells #[.slice ra R.length rc,.slice (some ⟨lb,0,none⟩) Ls.length lc] 70)).alloc (.cells #[.int .i64 v] 3)).cell? ⟨w.heap.size+1,0,none⟩=some (.int .i64 v):=by
  have h1:=heap_alloc_new (w.alloc (.cells #[.slice ra R.length rc,.slice (some ⟨lb,0,none⟩) Ls.length lc] 70)) (.cells #[.int .i64 v] 3)
  rw[show(w.alloc (.cells #[.slice ra R.length rc,.slice (some ⟨lb,0,none⟩) Ls.length lc] 70)).heap.size=w.heap.size+1 by simp] at h1
  rw[cell_of_row _ _ _ _ _ _ h1]
  rfl
 have IX:=hide (fun(W:World) (x:Below w.heap.size w W) (hb:W.cell? ⟨w.heap.size+1,0,none⟩=some (.int .i64 v))=>indexL_any (cap:=lc) hl (D.below (x.mono D.hB)).lay (Nat.le_trans D.hB x.size) hb hk hv hn)
 clear D hv hn
 go_enter Try.func33,Try.ntmps33
 go_upto_region 1 with fail
 generalize (w.alloc (.cells #[.slice ra R.length rc,.slice (some ⟨lb,0,none⟩) Ls.length lc] 70)).alloc (.cells #[.int .i64 v] 3)=w1 at *
 go_wp2_with (go_at_call 60;refine(IX.out w1 X1.out c2).mono ?_;rintro e w2 ⟨rfl,x2⟩;have X2:=hide (bt X1.out x2 (Nat.le_refl _));clear x2)
 go_ret
 exact⟨rfl,X2.out⟩
theorem RwZ.next {w:World} {g n k:Nat} {L:List Int} {x:Int} (h:RwZ w g (L++List.replicate (n-k) 0)) (hL:L.length=k) (hk:k<n):RwZ (w.setCell ⟨g,k,none⟩ (.int .i64 x)) g ((L++[x])++List.replicate (n-(k+1)) 0):=by
 have:=h.set k x
 have e:(L++List.replicate (n-k) 0).set k x=(L++[x])++List.replicate (n-(k+1)) 0:=by
  rw[List.set_append_right _ _ (by omega),hL,Nat.sub_self,show n-k=(n-(k+1))+1 by omega,List.replicate_succ]
  simp
 rw[e] at this
 exact this
set_option maxRecDepth 100000 in
set_option maxHeartbeats 2000000 in
theorem order_any (hl:Ls.length≤12) (D:DgX w B ra lb lc R Ls):
 Calls Try.prog 40 #[dgV ra R.length rc lb Ls.length lc] w fun e w'=>∃g,e=.returned (.slice (some ⟨g,0,none⟩) Ls.length Ls.length)∧RwZ w' g (Ls.map LA.lv)∧w.heap.size≤g∧Below w.heap.size w w':=by
 have HD:=hide D
 have hBw:=D.hB
 have X1:Hid (Below w.heap.size w (w.alloc (.cells #[.slice ra R.length rc,.slice (some ⟨lb,0,none⟩) Ls.length lc] 70))):=al (Below.refl _ _) _
 have D1:Hid ((w.alloc (.cells #[.slice ra R.length rc,.slice (some ⟨lb,0,none⟩) Ls.length lc] 70)).heap[w.heap.size]? =some (.cells #[.slice ra R.length rc,.slice (some ⟨lb,0,none⟩) Ls.length lc] 70 (0,0))):=heap_alloc_new w _
 have hmk:=make_ints Ls.length (Ls.length:Int) rfl (by omega)
 clear D
 go_enter Try.func40,Try.ntmps40
 go_upto_region 1 with fail
 generalize w.alloc (.cells #[.slice ra R.length rc,.slice (some ⟨lb,0,none⟩) Ls.length lc] 70)=w1 at *
 have d1:w1.cell? ⟨w.heap.size,1,none⟩=some (.slice (some ⟨lb,0,none⟩) Ls.length lc):=by rw[cell_of_row w1 _ _ _ _ _ D1.out];rfl
 have SZ1:Hid (w.heap.size<w1.heap.size):=lt_of_block D1.out
 go_upto_region 2 with fail
 have X2:Hid (Below w1.heap.size w1 (w1.alloc (.cells (zC (List.replicate Ls.length 0)).toArray 3))):=al (Below.refl _ _) _
 have Z2:Hid (RwZ (w1.alloc (.cells (zC (List.replicate Ls.length 0)).toArray 3)) w1.heap.size ([]++List.replicate (Ls.length-0) 0)):=RwZ.made w1 _
 clear d1 hmk
 generalize w1.alloc (.cells (zC (List.replicate Ls.length 0)).toArray 3)=w2 at *
 have d2:w2.cell? ⟨w.heap.size,1,none⟩=some (.slice (some ⟨lb,0,none⟩) Ls.length lc):=by rw[cell_of_row w2 _ _ _ _ _ ((X2.out.block _ SZ1.out).trans D1.out)];rfl
 go_wp2
 clear d2
 go_loopw [13] (fun x wr=>∃k:Nat,k≤Ls.length∧x=.int .i64 (k:Int)∧Hid (RwZ wr w1.heap.size ((Ls.take k).map LA.lv++List.replicate (Ls.length-k) 0))∧Hid (Below w.heap.size w wr)) (fun x _=>Ls.length-(RowKit.intOf x).toNat)
 case atStart=>exact⟨0,Nat.zero_le _,rfl,Z2,hide (bt X1.out X2.out (Nat.le_refl _))⟩
 case round=>
  obtain⟨k,hk,rfl,ZK,XK⟩:=hrel
  clear Z2 X2
  by_cases hlt:k<Ls.length
  ·have hlt':(k:Int)<(Ls.length:Int):=by omega
   obtain⟨q0,q1⟩:=(HD.out.below (XK.out.mono hBw)).lay.at0 hlt
   have Y1:Hid (Below wr.heap.size wr (wr.alloc (.cells #[.int .i64 (Ls[k]).lv,.slice (some ⟨(Ls[k]).rb,0,none⟩) (Ls[k]).Rs.length (Ls[k]).rc] 105))):=al (Below.refl _ _) _
   have p0:(wr.alloc (.cells #[.int .i64 (Ls[k]).lv,.slice (some ⟨(Ls[k]).rb,0,none⟩) (Ls[k]).Rs.length (Ls[k]).rc] 105)).cell? ⟨wr.heap.size,0,none⟩=some (.int .i64 (Ls[k]).lv):=by simp
   go_upto_region 5 with fail
   clear q0 q1
   have Z3:=hide (ZK.out.below Y1.out)
   have X3:=hide (bt XK.out Y1.out (Nat.le_refl _))
   generalize wr.alloc (.cells #[.int .i64 (Ls[k]).lv,.slice (some ⟨(Ls[k]).rb,0,none⟩) (Ls[k]).Rs.length (Ls[k]).rc] 105)=w3 at *
   obtain⟨v0,hv0⟩:∃v0,w3.cell? ⟨w1.heap.size,k,none⟩=some v0:=⟨_,Z3.out.cell (k:=k) (by simp;omega)⟩
   have f0:=Z3.out.fro k
   have Z4:=hide (Z3.out.next (x:=(Ls[k]).lv) (by simp;omega) hlt)
   have HT:Hid ((Ls.take (k+1)).map LA.lv=(Ls.take k).map LA.lv++[(Ls[k]).lv]):=by unfold Hid;rw[List.take_succ_eq_append_getElem hlt,List.map_append];rfl
   go_wp2
   go_roundw
   case rel=>exact⟨k+1,by omega,by go_num,by rw[HT.out];exact Z4,hide (X3.out.setCell (p:=⟨w1.heap.size,k,none⟩) (Nat.le_of_lt SZ1.out) _)⟩
   case measure=>simp[RowKit.intOf];omega
  ·have hlt':¬(k:Int)<(Ls.length:Int):=by omega
   obtain rfl:k=Ls.length:=by omega
   go_wp2
   go_ret
   have:=ZK.out
   rw[List.take_length,Nat.sub_self,List.replicate_zero,List.append_nil] at this
   exact⟨_,rfl,this,Nat.le_of_lt SZ1.out,XK.out⟩
end
end Go.Proofs.Ytnddhkhmbjeefaa

