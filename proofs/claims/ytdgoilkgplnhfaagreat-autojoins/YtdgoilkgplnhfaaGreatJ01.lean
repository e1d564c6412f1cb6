/-
  Sets of numbers as lists of spans: members, the one form, and that a set has just one. No condition.
-/
import Derived.Test.YtdgoilkgplnhfaaGreatProg
import Derived.WalkKit
import Derived.WalkLawsBesides
import Derived.Below
import Derived.OneCell
import Derived.Deep.QuietTactic
import Derived.BigQuiet
namespace Go.Proofs.YtdgoilkgplnhfaaGreat
abbrev Spn:=Int×Int
def Bnd (s:Spn):Prop:=0≤s.1∧s.1≤s.2∧s.2≤4294967295
instance (s:Spn):Decidable (Bnd s):=by unfold Bnd;infer_instance
def qcu (L:List Spn):Prop:=(∀s∈L,Bnd s)∧L.Pairwise (fun s t=>s.2+2≤t.1)
instance (L:List Spn):Decidable (qcu L):=by unfold qcu;infer_instance
def qef (n:Int) (L:List Spn):Bool:=L.any fun s=>decide (s.1≤n)&&decide (n≤s.2)
theorem qhg (n:Int) (L:List Spn):qef n L=true↔∃s∈L,s.1≤n∧n≤s.2:=by simp[qef]
theorem qcu.head {s:Spn} {L:List Spn} (h:qcu (s::L)):Bnd s:=h.1 s (List.mem_cons_self ..)
end Go.Proofs.YtdgoilkgplnhfaaGreat
namespace Go.Proofs.YtdgoilkgplnhfaaGreat
open Go.RowKit Go.Lib
structure Kept (F:Nat→Prop) (w w':World):Prop where
 os:w'.os=w.os
 tape:w'.tape=w.tape
 output:w'.output=w.output
 size:w.heap.size≤w'.heap.size
 block:∀k,k<w.heap.size→¬F k→w'.heap[k]? =w.heap[k]?
theorem Kept.refl (F:Nat→Prop) (w:World):Kept F w w:=⟨rfl,rfl,rfl,Nat.le_refl _,fun _ _ _=>rfl⟩
theorem Kept.trans {F:Nat→Prop} {a b c:World} (h:Kept F a b) (k:Kept F b c):Kept F a c:=
 ⟨k.os.trans h.os,k.tape.trans h.tape,k.output.trans h.output,Nat.le_trans h.size k.size,fun i hi hf=>(k.block i (Nat.lt_of_lt_of_le hi h.size) hf).trans (h.block i hi hf)⟩
theorem Kept.trans_new {F G:Nat→Prop} {a b c:World} (h:Kept F a b) (k:Kept G b c) (hG:∀i,i<a.heap.size→G i→F i):Kept F a c:=
 ⟨k.os.trans h.os,k.tape.trans h.tape,k.output.trans h.output,Nat.le_trans h.size k.size,fun i hi hf=>(k.block i (Nat.lt_of_lt_of_le hi h.size) (fun hg=>hf (hG i hi hg))).trans (h.block i hi hf)⟩
theorem Kept.mono {F G:Nat→Prop} {a b:World} (h:Kept F a b) (hG:∀i,F i→G i):Kept G a b:=
 ⟨h.os,h.tape,h.output,h.size,fun i hi hf=>h.block i hi (fun hg=>hf (hG i hg))⟩
theorem Kept.of_below {F:Nat→Prop} {a b:World} (h:Below a.heap.size a b):Kept F a b:=
 ⟨h.os,h.tape,h.output,h.size,fun i hi _=>h.block i hi⟩
theorem Kept.below {F:Nat→Prop} {B:Nat} {a b:World} (h:Kept F a b) (hB:B≤a.heap.size) (hF:∀i,F i→B≤i):Below B a b:=
 ⟨h.os,h.tape,h.output,h.size,fun i hi=>h.block i (by omega) (fun hf=>by have:=hF i hf;omega)⟩
theorem Kept.setCell {F:Nat→Prop} {a w:World} (h:Kept F a w) {p:Addr} (hp:F p.block) (u:Value):Kept F a (w.setCell p u):=
 h.trans ⟨rfl,rfl,rfl,by simp[World.setCell],fun k _ hf=>Below.heap_setCell _ _ _ _ (fun e=>hf (e▸hp))⟩
theorem Kept.drew {F:Nat→Prop} {a w:World} (h:Kept F a w):Kept F a w.drew:=⟨h.os,h.tape,h.output,h.size,h.block⟩
theorem Kept.grown {F:Nat→Prop} {a w w':World} {row:Option Nat} (h:Kept F a w) (hg:w.grownBy w' row) (hr:∀k,row=some k→F k):Kept F a w':=
 h.trans ⟨hg.os,hg.tape,hg.output,hg.size,fun k hk hf=>hg.block k hk (fun e=>hf (hr k e.symm))⟩
theorem Kept.cell {F:Nat→Prop} {w w':World} (h:Kept F w w') {p:Addr} (hp:p.block<w.heap.size) (hf:¬F p.block):w'.cell? p=w.cell? p:=World.cell?_of_block (w:=w) (h.block p.block hp hf)
theorem qaa {p:Prop} (h:p):Hid p:=h
section
variable {P:Program} {ops:Array Oper} {C:World→Prop} {Q:Act→Prop}
structure QW (P:Program) (ops:Array Oper) (C:World→Prop) (Q:Act→Prop) (l:List Oper) (a:Act):Prop where
 out:wpQuiet P ops C Q l a
theorem QW.skip {o:Oper} {rest:List Oper} {a:Act} (hw:Region.wanted o (yielded ops a.tmps)=false) (h:QW P ops C Q rest (a.put o.dst undef)):QW P ops C Q (o::rest) a:=
 ⟨wpQuiet_step fun K hK=>by rw[hw];exact hK _ h.out⟩
theorem QW.take {o:Oper} {rest:List Oper} {a:Act} (hw:Region.wanted o (yielded ops a.tmps)=true) (h:∃v,(∀w,C w→o.quietAt P a C w v)∧QW P ops C Q rest (a.put o.dst v)):QW P ops C Q (o::rest) a:=
 ⟨wpQuiet_step fun K hK=>by rw[hw];obtain⟨v,h1,h2⟩:=h;exact⟨v,h1,hK _ h2.out⟩⟩
theorem QW.nil {a:Act} (h:Q a):QW P ops C Q [] a:=⟨wpQuiet_nil h⟩
end
def qir (w:World) (b o:Nat) (s:Spn):Prop:=w.cell? ⟨b,o,none⟩=some (.int .i64 s.1)∧w.cell? ⟨b,o+1,none⟩=some (.int .i64 s.2)
def qge (w:World) (ao:Option Addr) (L:List Spn):Prop:=
 L=[]∨∃b off,ao=some ⟨b,off,none⟩∧b<w.heap.size∧∀i,i<L.length→qir w b (off+i*2) (L.getD i (0,0))
theorem qge.get {w:World} {ao:Option Addr} {L:List Spn} (h:qge w ao L) {i:Nat} (hi:i<L.length):∃b off,ao=some ⟨b,off,none⟩∧b<w.heap.size∧∀i,i<L.length→qir w b (off+i*2) (L.getD i (0,0)):=by
 rcases h with rfl|h
 ·simp at hi
 ·exact h
theorem qir.below {w w':World} {B b o:Nat} {s:Spn} (h:qir w b o s) (hb:Below B w w') (hB:b<B):qir w' b o s:=
 ⟨(hb.cell (p:=⟨b,_,none⟩) hB).trans h.1,(hb.cell (p:=⟨b,_,none⟩) hB).trans h.2⟩
theorem qge.below {w w':World} {ao:Option Addr} {L:List Spn} (h:qge w ao L) (hb:Below w.heap.size w w'):qge w' ao L:=by
 rcases h with rfl|⟨b,off,e,hlt,h⟩
 ·exact .inl rfl
 ·exact .inr ⟨b,off,e,Nat.lt_of_lt_of_le hlt hb.size,fun i hi=>(h i hi).below hb hlt⟩
theorem qcb (lo hi:Int) (w:World):
 Calls Tryz.prog 145 #[.agg #[.int .i64 lo,.int .i64 hi]] w fun e w'=>e=.returned (.bool (decide (Bnd (lo,hi))))∧Below w.heap.size w w':=by
 by_cases h1:0≤lo<;>by_cases h2:lo≤hi<;>by_cases h3:hi≤4294967295<;>
  (first|rw[show decide (Bnd (lo,hi))=true from decide_eq_true ⟨h1,h2,h3⟩]|rw[show decide (Bnd (lo,hi))=false from decide_eq_false (fun h=>by unfold Bnd at h;simp only at h;omega)])<;>
  (first|(exfalso;omega)|(go_enter Tryz.func145,Tryz.ntmps145;go_wp2;go_ret;exact⟨rfl,(Below.refl _ _).alloc (Nat.le_refl _) _⟩))
def qpb (L:List Spn) (i:Nat):Prop:=Bnd (L.getD i (0,0))∧(0<i→(L.getD (i-1) (0,0)).2+2≤(L.getD i (0,0)).1)
theorem qgf {L:List Spn} (h:∀i,i<L.length→qpb L i):qcu L:=by
 have hB:∀i (hi:i<L.length),Bnd L[i]:=fun i hi=>by have:=(h i hi).1;simpa [List.getD_eq_getElem?_getD,hi] using this
 refine⟨fun s hs=>?_,?_⟩
 ·obtain⟨i,hi,rfl⟩:=List.getElem_of_mem hs
  exact hB i hi
 ·rw[List.pairwise_iff_getElem]
  intro i j hi hj hij;obtain⟨d,rfl⟩:∃d,j=i+d+1:=⟨j-i-1,by omega⟩;clear hij
  induction d with
  |zero=>have:=(h (i+0+1) hj).2 (by omega);simpa [List.getD_eq_getElem?_getD,hi,hj] using this
  |succ d ih=>
   have a1:=ih (by omega);have a2:=(h (i+(d+1)+1) hj).2 (by omega);have a3:=hB (i+d+1) (by omega);unfold Bnd at a3;have e2:i+(d+1)+1-1=i+d+1:=by omega
   rw[e2] at a2;simp[List.getD_eq_getElem?_getD,hj,show i+d+1<L.length by omega] at a2;omega
theorem qdw {L:List Spn} (h:qcu L) {i:Nat} (hi:i<L.length):qpb L i:=by
 refine⟨?_,fun h0=>?_⟩
 ·simpa [List.getD_eq_getElem?_getD,hi] using h.1 L[i] (List.getElem_mem hi)
 ·have:=List.pairwise_iff_getElem.1 h.2 (i-1) i (by omega) hi (by omega)
  simpa [List.getD_eq_getElem?_getD,hi,show i-1<L.length by omega] using this
set_option maxRecDepth 100000 in
set_option maxHeartbeats 1000000 in
theorem qfd (ao:Option Addr) (cap:Nat) (L:List Spn) (w:World) (hl:L.length≤140737488351232) (hat:qge w ao L):
 Calls Tryz.prog 132 #[.slice ao L.length cap] w fun e w'=>e=.returned (.bool (decide (qcu L)))∧Below w.heap.size w w':=by
 go_enter Tryz.func132,Tryz.ntmps132;go_wp2;go_loopw [7] (fun i wr=>∃k:Nat,k≤L.length∧i=.int .i64 k∧Hid (∀j,j<k→qpb L j)∧Below w.heap.size w wr) (fun i _=>L.length-(intOf i).toNat)
 case atStart=>exact⟨0,Nat.zero_le _,rfl,fun j hj=>absurd hj (by omega),Below.refl _ _⟩
 case round=>
  obtain⟨k,hk,rfl,hok,hq⟩:=hrel;have HQ:=qaa hq;clear hq;by_cases hlt:k<L.length
  ·obtain⟨b,off,rfl,hb,hc⟩:=hat.get hlt
   obtain⟨c1,c2⟩:=(hc k hlt).below HQ.out hb;have hc':=fun(h0:0<k)=>((hc (k-1) (by omega)).below HQ.out hb).2
   obtain⟨s,hs⟩:∃s,s=L.getD k (0,0):=⟨_,rfl⟩;rw[←hs] at c1 c2;have HS:=qaa hs;have HC:=qaa hc;have HC':=qaa hc';clear hs hc hc';go_wp2;generalize hW:wr.alloc (.cells #[.int .i64 s.1,.int .i64 s.2] 175)=W;have q1:W.cell? ⟨wr.heap.size,0,none⟩=some (.int .i64 s.1):=by rw[←hW];simp
   have q2:W.cell? ⟨wr.heap.size,1,none⟩=some (.int .i64 s.2):=by rw[←hW];simp
   have hwb:Below wr.heap.size wr W:=by rw[←hW];exact(Below.refl _ _).alloc (Nat.le_refl _) _
   have hws:wr.heap.size<W.heap.size:=by rw[←hW];simp
   have hbw:b<wr.heap.size:=Nat.lt_of_lt_of_le hb HQ.out.size;have HB:Hid (Below w.heap.size w W):=HQ.out.trans (hwb.mono HQ.out.size);have HD:Hid (Below W.heap.size W W.drew):=(Below.refl _ _).drew;have fin:∀w',Below W.heap.size W w'→Hid (Below w.heap.size w w'):=fun w' h=>HB.out.trans (h.mono (Nat.le_trans HQ.out.size (Nat.le_of_lt hws)))
   have HP:Hid (∀h0:0<k,W.cell? ⟨b,off+(k-1)*2+1,none⟩=some (.int .i64 (L.getD (k-1) (0,0)).2)):=fun h0=>(hwb.cell (p:=⟨b,_,none⟩) hbw).trans (HC'.out h0)
   clear hwb;by_cases hbd:Bnd s
   ·have e1:decide (Bnd (s.1,s.2))=true:=decide_eq_true hbd
    by_cases h0:0<k
    ·have hp:=HP.out h0
     have hpo:=(hok.out (k-1) (by omega)).1;obtain⟨z,hz⟩:∃z,z=L.getD (k-1) (0,0):=⟨_,rfl⟩;rw[←hz] at hp hpo;have HZ:=qaa hz;unfold Bnd at hpo;clear hz;have hkz:((k:Int)-1)=((k-1:Nat):Int):=by omega
     have hbw2:b<W.heap.size:=by omega
     have fit:IntKind.i64.wrap ((k-1:Nat):Int)=((k-1:Nat):Int):=by simp[IntKind.wrap,IntKind.bits,IntKind.signed];omega
     have hi2:((k-1:Nat):Int)<(L.length:Int):=by omega
     have hkg:decide ((0:Int)<(k:Int))=true:=decide_eq_true (by omega);have fz:IntKind.i64.wrap (z.2+2)=z.2+2:=by simp[IntKind.wrap,IntKind.bits,IntKind.signed];omega
     by_cases hgap:z.2+2≤s.1
     ·have hgd:decide (s.1<z.2+2)=false:=decide_eq_false (by omega)
      refine wp_region_quiet (C:=fun w'=>Below W.heap.size W w') (by kernel_rfl) (by kernel_rfl) HD.out ?_;refine QW.out (l:=_::_) ?_
      iterate 1 (refine QW.take (by rfl) ?_;apply Exists.intro;refine⟨fun w' hw'=>?_,?_⟩;(·(have g1:=(hw'.cell (p:=⟨wr.heap.size,0,none⟩) hws).trans q1;have g2:=(hw'.cell (p:=⟨wr.heap.size,1,none⟩) hws).trans q2;have g3:=(hw'.cell (p:=⟨b,off+(k-1)*2+1,none⟩) hbw2).trans hp;go_simp;first|done|((try simp only[fit,hkg,hgd,fz]);first|done|rfl)));try simp only[Act.put,List.setIfInBounds_toArray,List.set_cons_zero,List.set_cons_succ])
      iterate 1 (refine QW.take (by rfl) ?_;apply Exists.intro;refine⟨fun w' hw'=>?_,?_⟩;(·(have g1:=(hw'.cell (p:=⟨wr.heap.size,0,none⟩) hws).trans q1;have g2:=(hw'.cell (p:=⟨wr.heap.size,1,none⟩) hws).trans q2;have g3:=(hw'.cell (p:=⟨b,off+(k-1)*2+1,none⟩) hbw2).trans hp;go_simp;(refine(qcb s.1 s.2 _).mono ?_;rintro e w2 ⟨rfl,x2⟩;rw[e1];exact⟨rfl,hw'.trans (x2.mono hw'.size)⟩)));try simp only[Act.put,List.setIfInBounds_toArray,List.set_cons_zero,List.set_cons_succ])
      iterate 17 (refine QW.take (by rfl) ?_;apply Exists.intro;refine⟨fun w' hw'=>?_,?_⟩;(·(have g1:=(hw'.cell (p:=⟨wr.heap.size,0,none⟩) hws).trans q1;have g2:=(hw'.cell (p:=⟨wr.heap.size,1,none⟩) hws).trans q2;have g3:=(hw'.cell (p:=⟨b,off+(k-1)*2+1,none⟩) hbw2).trans hp;go_simp;first|done|((try simp only[fit,hkg,hgd,fz]);first|done|rfl)));try simp only[Act.put,List.setIfInBounds_toArray,List.set_cons_zero,List.set_cons_succ])
      refine QW.nil ?_;intro w2 x2;have X2:=fin w2 x2;clear x2 q1 q2;go_wp2;go_roundw
      case rel=>exact⟨k+1,by omega,by go_num,fun j hj=>by
       rcases Nat.lt_or_ge j k with h|h
       ·exact hok.out j h
       ·rw[show j=k by omega];exact⟨by rw[←HS.out];exact hbd,fun _=>by rw[←HZ.out,←HS.out];exact hgap⟩,X2.out⟩
      case measure=>simp[intOf];omega
     ·have hgd:decide (s.1<z.2+2)=true:=decide_eq_true (by omega)
      refine wp_region_quiet (C:=fun w'=>Below W.heap.size W w') (by kernel_rfl) (by kernel_rfl) HD.out ?_;refine QW.out (l:=_::_) ?_
      iterate 1 (refine QW.take (by rfl) ?_;apply Exists.intro;refine⟨fun w' hw'=>?_,?_⟩;(·(have g1:=(hw'.cell (p:=⟨wr.heap.size,0,none⟩) hws).trans q1;have g2:=(hw'.cell (p:=⟨wr.heap.size,1,none⟩) hws).trans q2;have g3:=(hw'.cell (p:=⟨b,off+(k-1)*2+1,none⟩) hbw2).trans hp;go_simp;first|done|((try simp only[fit,hkg,hgd,fz]);first|done|rfl)));try simp only[Act.put,List.setIfInBounds_toArray,List.set_cons_zero,List.set_cons_succ])
      iterate 1 (refine QW.take (by rfl) ?_;apply Exists.intro;refine⟨fun w' hw'=>?_,?_⟩;(·(have g1:=(hw'.cell (p:=⟨wr.heap.size,0,none⟩) hws).trans q1;have g2:=(hw'.cell (p:=⟨wr.heap.size,1,none⟩) hws).trans q2;have g3:=(hw'.cell (p:=⟨b,off+(k-1)*2+1,none⟩) hbw2).trans hp;go_simp;(refine(qcb s.1 s.2 _).mono ?_;rintro e w2 ⟨rfl,x2⟩;rw[e1];exact⟨rfl,hw'.trans (x2.mono hw'.size)⟩)));try simp only[Act.put,List.setIfInBounds_toArray,List.set_cons_zero,List.set_cons_succ])
      iterate 17 (refine QW.take (by rfl) ?_;apply Exists.intro;refine⟨fun w' hw'=>?_,?_⟩;(·(have g1:=(hw'.cell (p:=⟨wr.heap.size,0,none⟩) hws).trans q1;have g2:=(hw'.cell (p:=⟨wr.heap.size,1,none⟩) hws).trans q2;have g3:=(hw'.cell (p:=⟨b,off+(k-1)*2+1,none⟩) hbw2).trans hp;go_simp;first|done|((try simp only[fit,hkg,hgd,fz]);first|done|rfl)));try simp only[Act.put,List.setIfInBounds_toArray,List.set_cons_zero,List.set_cons_succ])
      refine QW.nil ?_;intro w2 x2;have X2:=fin w2 x2;clear x2 q1 q2;go_wp2;go_ret;refine⟨?_,X2.out⟩;rw[decide_eq_false (fun h=>by have:=(qdw h hlt).2 h0;rw[←HZ.out,←HS.out] at this;omega)];rfl
    ·have hk0:¬(0:Int)<(k:Int):=by omega
     have hkg:decide ((0:Int)<(k:Int))=false:=decide_eq_false hk0;refine wp_region_quiet (C:=fun w'=>Below W.heap.size W w') (by kernel_rfl) (by kernel_rfl) HD.out ?_;refine QW.out (l:=_::_) ?_
     iterate 1 (refine QW.take (by rfl) ?_;apply Exists.intro;refine⟨fun w' hw'=>?_,?_⟩;(·(have g1:=(hw'.cell (p:=⟨wr.heap.size,0,none⟩) hws).trans q1;have g2:=(hw'.cell (p:=⟨wr.heap.size,1,none⟩) hws).trans q2;go_simp;first|done|((try simp only[hkg]);first|done|rfl)));try simp only[Act.put,List.setIfInBounds_toArray,List.set_cons_zero,List.set_cons_succ])
     iterate 1 (refine QW.take (by rfl) ?_;apply Exists.intro;refine⟨fun w' hw'=>?_,?_⟩;(·(have g1:=(hw'.cell (p:=⟨wr.heap.size,0,none⟩) hws).trans q1;have g2:=(hw'.cell (p:=⟨wr.heap.size,1,none⟩) hws).trans q2;go_simp;(refine(qcb s.1 s.2 _).mono ?_;rintro e w2 ⟨rfl,x2⟩;rw[e1];exact⟨rfl,hw'.trans (x2.mono hw'.size)⟩)));try simp only[Act.put,List.setIfInBounds_toArray,List.set_cons_zero,List.set_cons_succ])
     iterate 5 (refine QW.take (by rfl) ?_;apply Exists.intro;refine⟨fun w' hw'=>?_,?_⟩;(·(have g1:=(hw'.cell (p:=⟨wr.heap.size,0,none⟩) hws).trans q1;have g2:=(hw'.cell (p:=⟨wr.heap.size,1,none⟩) hws).trans q2;go_simp;first|done|((try simp only[hkg]);first|done|rfl)));try simp only[Act.put,List.setIfInBounds_toArray,List.set_cons_zero,List.set_cons_succ])
     iterate 10 (refine QW.skip (by rfl) ?_;try simp only[Act.put,List.setIfInBounds_toArray,List.set_cons_zero,List.set_cons_succ])
     iterate 2 (refine QW.take (by rfl) ?_;apply Exists.intro;refine⟨fun w' hw'=>?_,?_⟩;(·(have g1:=(hw'.cell (p:=⟨wr.heap.size,0,none⟩) hws).trans q1;have g2:=(hw'.cell (p:=⟨wr.heap.size,1,none⟩) hws).trans q2;go_simp;first|done|((try simp only[hkg]);first|done|rfl)));try simp only[Act.put,List.setIfInBounds_toArray,List.set_cons_zero,List.set_cons_succ])
     refine QW.nil ?_;intro w2 x2;have X2:=fin w2 x2;clear x2 q1 q2;go_wp2;go_roundw
     case rel=>exact⟨k+1,by omega,by go_num,fun j hj=>by rw[show j=k by omega];exact⟨by rw[←HS.out];exact hbd,fun h=>absurd h (by omega)⟩,X2.out⟩
     case measure=>simp[intOf];omega
   ·have e1:decide (Bnd (s.1,s.2))=false:=decide_eq_false hbd
    refine wp_region_quiet (C:=fun w'=>Below W.heap.size W w') (by kernel_rfl) (by kernel_rfl) HD.out ?_;refine QW.out (l:=_::_) ?_
    iterate 1 (refine QW.take (by rfl) ?_;apply Exists.intro;refine⟨fun w' hw'=>?_,?_⟩;(·(have g1:=(hw'.cell (p:=⟨wr.heap.size,0,none⟩) hws).trans q1;have g2:=(hw'.cell (p:=⟨wr.heap.size,1,none⟩) hws).trans q2;go_simp;first|done|(first|done|rfl)));try simp only[Act.put,List.setIfInBounds_toArray,List.set_cons_zero,List.set_cons_succ])
    iterate 1 (refine QW.take (by rfl) ?_;apply Exists.intro;refine⟨fun w' hw'=>?_,?_⟩;(·(have g1:=(hw'.cell (p:=⟨wr.heap.size,0,none⟩) hws).trans q1;have g2:=(hw'.cell (p:=⟨wr.heap.size,1,none⟩) hws).trans q2;go_simp;(refine(qcb s.1 s.2 _).mono ?_;rintro e w2 ⟨rfl,x2⟩;rw[e1];exact⟨rfl,hw'.trans (x2.mono hw'.size)⟩)));try simp only[Act.put,List.setIfInBounds_toArray,List.set_cons_zero,List.set_cons_succ])
    iterate 2 (refine QW.take (by rfl) ?_;apply Exists.intro;refine⟨fun w' hw'=>?_,?_⟩;(·(have g1:=(hw'.cell (p:=⟨wr.heap.size,0,none⟩) hws).trans q1;have g2:=(hw'.cell (p:=⟨wr.heap.size,1,none⟩) hws).trans q2;go_simp;first|done|(first|done|rfl)));try simp only[Act.put,List.setIfInBounds_toArray,List.set_cons_zero,List.set_cons_succ])
    iterate 14 (refine QW.skip (by rfl) ?_;try simp only[Act.put,List.setIfInBounds_toArray,List.set_cons_zero,List.set_cons_succ])
    iterate 1 (refine QW.take (by rfl) ?_;apply Exists.intro;refine⟨fun w' hw'=>?_,?_⟩;(·(have g1:=(hw'.cell (p:=⟨wr.heap.size,0,none⟩) hws).trans q1;have g2:=(hw'.cell (p:=⟨wr.heap.size,1,none⟩) hws).trans q2;go_simp;first|done|(first|done|rfl)));try simp only[Act.put,List.setIfInBounds_toArray,List.set_cons_zero,List.set_cons_succ])
    refine QW.nil ?_;intro w2 x2;have X2:=fin w2 x2;clear x2 q1 q2;go_wp2;go_ret;refine⟨?_,X2.out⟩;rw[decide_eq_false (fun h=>hbd (by rw[HS.out];exact(qdw h hlt).1))];rfl
  ·have h8:k=L.length:=by omega
   subst h8;go_wp2;go_ret;exact⟨by rw[decide_eq_true (qgf hok.out)];rfl,HQ.out⟩
theorem below_drewN (B:Nat) (w:World) (q:Nat):Below B w (w.drewN q):=⟨rfl,rfl,rfl,Nat.le_refl _,fun _ _=>rfl⟩
theorem qkq (lo hi n:Int) (nb:Nat) (w:World) (hn:w.cell? ⟨nb,0,none⟩=some (.int .i64 n)) (hlt:nb<w.heap.size):
 Calls Tryz.prog 134 #[.agg #[.int .i64 lo,.int .i64 hi],.pointer (some ⟨nb,0,none⟩)] w fun e w'=>e=.returned (.bool (decide (lo≤n)&&decide (n≤hi)))∧Below w.heap.size w w':=by
 have q:(w.alloc (.cells #[.int .i64 lo,.int .i64 hi] 175)).cell? ⟨nb,0,none⟩=some (.int .i64 n):=by rw[World.cell?_alloc_past _ _ _ hlt];exact hn
 by_cases h1:lo≤n
 ·by_cases h2:n≤hi
  ·rw[decide_eq_true h1,decide_eq_true h2]
   go_enter Tryz.func134,Tryz.ntmps134;go_wp2;go_ret;exact⟨rfl,(Below.refl _ _).alloc (Nat.le_refl _) _⟩
  ·rw[decide_eq_true h1,decide_eq_false h2]
   go_enter Tryz.func134,Tryz.ntmps134;go_wp2;go_ret;exact⟨rfl,(Below.refl _ _).alloc (Nat.le_refl _) _⟩
 ·rw[decide_eq_false h1,Bool.false_and]
  go_enter Tryz.func134,Tryz.ntmps134;go_wp2;go_ret;exact⟨rfl,(Below.refl _ _).alloc (Nat.le_refl _) _⟩
theorem qhy {L:List Spn} {n:Int} {k:Nat} (hk:k<L.length) (h:((decide ((L.getD k (0,0)).1≤n)&&decide (n≤(L.getD k (0,0)).2))=true)):qef n L=true:=by
 rw[qhg];refine⟨L[k],List.getElem_mem hk,?_⟩;simpa [List.getD_eq_getElem?_getD,hk] using h
theorem qfe {L:List Spn} {n:Int} (h:∀k,k<L.length→((decide ((L.getD k (0,0)).1≤n)&&decide (n≤(L.getD k (0,0)).2))=false)):qef n L=false:=by
 cases e:qef n L with
 |false=>rfl
 |true=>
  obtain⟨s,hs,h1,h2⟩:=(qhg n L).1 e;obtain⟨k,hk,rfl⟩:=List.getElem_of_mem hs;have:=h k hk;simp[List.getD_eq_getElem?_getD,hk,h1,h2] at this
set_option maxRecDepth 100000 in
set_option maxHeartbeats 1000000 in
theorem qhz (ao:Option Addr) (cap:Nat) (L:List Spn) (n:Int) (nb:Nat) (w:World) (hl:L.length≤140737488351232) (hat:qge w ao L) (hn:w.cell? ⟨nb,0,none⟩=some (.int .i64 n)) (hlt0:nb<w.heap.size):
 Calls Tryz.prog 162 #[.slice ao L.length cap,.func (.func 134) #[] #[.pointer (some ⟨nb,0,none⟩)]] w fun e w'=>(∃i:Int,e=.returned (.int .i64 i)∧decide (0≤i)=qef n L)∧Below w.heap.size w w':=by
 go_enter Tryz.func162,Tryz.ntmps162;go_wp2;go_loopw [8] (fun i wr=>∃k:Nat,k≤L.length∧i=.int .i64 k∧Hid (∀k',k'<k→((decide ((L.getD k' (0,0)).1≤n)&&decide (n≤(L.getD k' (0,0)).2))=false))∧Below w.heap.size w wr) (fun i _=>L.length-(intOf i).toNat)
 case atStart=>exact⟨0,Nat.zero_le _,rfl,fun j hj=>absurd hj (by omega),Below.refl _ _⟩
 case round=>
  obtain⟨k,hk,rfl,hok,hq⟩:=hrel;have HQ:=qaa hq;clear hq;by_cases hlt:k<L.length
  ·obtain⟨b,off,rfl,hb,hc⟩:=hat.get hlt
   obtain⟨c1,c2⟩:=(hc k hlt).below HQ.out hb;have hn':=(HQ.out.cell (p:=⟨nb,0,none⟩) hlt0).trans hn;have hlt1:=Nat.lt_of_lt_of_le hlt0 HQ.out.size;obtain⟨s,hs⟩:∃s,s=L.getD k (0,0):=⟨_,rfl⟩;rw[←hs] at c1 c2;have HS:=qaa hs;have hcon:=qkq s.1 s.2 n nb wr hn' hlt1;clear hs hc hat;by_cases hm:(decide (s.1≤n)&&decide (n≤s.2))=true
   ·rw[hm] at hcon
    go_wp2_with (go_at_call 134;refine hcon.mono ?_;rintro e w2 ⟨rfl,x2⟩;have X2:=qaa x2;clear x2);go_ret;exact⟨⟨(k:Int),rfl,by rw[qhy hlt (by rw[←HS.out];exact hm)];simp⟩,HQ.out.trans (X2.out.mono HQ.out.size)⟩
   ·rw[Bool.not_eq_true] at hm
    rw[hm] at hcon;go_wp2_with (go_at_call 134;refine hcon.mono ?_;rintro e w2 ⟨rfl,x2⟩;have X2:=qaa x2;clear x2);go_roundw
    case rel=>
     refine⟨k+1,by omega,by go_num,fun j hj=>?_,HQ.out.trans (X2.out.mono HQ.out.size)⟩;rcases Nat.lt_or_ge j k with h|h
     ·exact hok.out j h
     ·rw[show j=k by omega,←HS.out];exact hm
    case measure=>simp[intOf];omega
  ·have h8:k=L.length:=by omega
   subst h8;go_wp2;go_ret;exact⟨⟨-1,rfl,by rw[qfe hok.out];rfl⟩,HQ.out⟩
theorem qff (ao:Option Addr) (cap:Nat) (L:List Spn) (n:Int) (nb:Nat) (w:World) (hl:L.length≤140737488351232) (hat:qge w ao L) (hn:w.cell? ⟨nb,0,none⟩=some (.int .i64 n)) (hlt0:nb<w.heap.size):
 Calls Tryz.prog 133 #[.slice ao L.length cap,.func (.func 134) #[] #[.pointer (some ⟨nb,0,none⟩)]] w fun e w'=>e=.returned (.bool (qef n L))∧Below w.heap.size w w':=by
 have hcon:=qhz ao cap L n nb w hl hat hn hlt0;clear hat hn;go_enter Tryz.func133,Tryz.ntmps133;go_wp2_with (go_at_call 162;refine hcon.mono ?_;rintro e w2 ⟨⟨i,rfl,hi⟩,x2⟩;have X2:=qaa x2;have HI:=qaa hi;clear x2 hi);go_ret;exact⟨by rw[←HI.out];rfl,X2.out⟩
def qmo (L:List Spn) (n:Int):Bool:=decide (qcu L)&&qef n L
theorem qmp (ao:Option Addr) (cap:Nat) (L:List Spn) (n:Int) (w:World) (hl:L.length≤140737488351232) (hat:qge w ao L):
 Calls Tryz.prog 107 #[.slice ao L.length cap,.int .i64 n] w fun e w'=>e=.returned (.bool (qmo L n))∧Below w.heap.size w w':=by
 have hmf:∀(fn:Fn) (first cap:Array Value) (w:World),(Instr.makeFunc fn first cap).run Tryz.prog w=.ok (.func fn first cap) w:=fun _ _ _ _=>rfl
 have b1:Below w.heap.size w (w.alloc (.cells #[.int .i64 n] 3)):=(Below.refl _ _).alloc (Nat.le_refl _) _;have hr:=qfd ao cap L (w.alloc (.cells #[.int .i64 n] 3)) hl (hat.below b1);by_cases hs:qcu L
 ·rw[decide_eq_true hs] at hr
  have e1:qmo L n=qef n L:=by simp[qmo,hs]
  rw[e1];have hc:=fun(w2:World) (h:Below (w.alloc (.cells #[.int .i64 n] 3)).heap.size (w.alloc (.cells #[.int .i64 n] 3)) w2)=>
   qff ao cap L n w.heap.size w2 hl ((hat.below b1).below h) ((h.cell (p:=⟨w.heap.size,0,none⟩) (by simp)).trans (by simp)) (Nat.lt_of_lt_of_le (by simp) h.size)
  have HB:=qaa b1;clear hat e1 b1;go_enter Tryz.func107,Tryz.ntmps107;go_wp2_with (first|(go_at_call 132;refine hr.mono ?_;rintro e w2 ⟨rfl,x2⟩;have X2:=qaa x2;clear x2)|(go_at_call 133;refine(hc _ X2.out).mono ?_;rintro e w3 ⟨rfl,x3⟩;have X3:=qaa x3;clear x3));go_ret;exact⟨rfl,HB.out.trans ((X2.out.mono (by simp)).trans (X3.out.mono (Nat.le_trans (by simp) X2.out.size)))⟩
 ·rw[decide_eq_false hs] at hr
  have e1:qmo L n=false:=by simp[qmo,hs]
  rw[e1];have HB:=qaa b1;clear hat e1 b1;go_enter Tryz.func107,Tryz.ntmps107;go_wp2_with (go_at_call 132;refine hr.mono ?_;rintro e w2 ⟨rfl,x2⟩;have X2:=qaa x2;clear x2);go_ret;exact⟨rfl,HB.out.trans (X2.out.mono (by simp))⟩
end Go.Proofs.YtdgoilkgplnhfaaGreat

