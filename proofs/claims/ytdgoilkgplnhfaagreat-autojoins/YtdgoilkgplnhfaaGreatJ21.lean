/-
  The contracts of slices.SortFunc, cmp.Compare at this program, laid off the library by its own tool: no condition of ours.
-/
import Derived.Shelf.SlSortCmp.WholeK
import Derived.Shelf.SlicesG.Cmp
import Derived.Ground.SlsfProg
import Derived.Ground.SlgcProg
import Derived.Test.YtdgoilkgplnhfaaGreatProg
import Derived.Shelf.SlSortCmp.NoneTotal
import Derived.Laws.OwnMore
import Derived.OwnWalk
import Derived.Maps.AppendAt
import Derived.Deep.RegionHeld3
import Derived.Test.YtdgoilkgplnhfaaGreatJ01
import Derived.Shelf.SlSortCmp.Whole1
import Derived.Deep.RegionWith
import Derived.Test.YtdgoilkgplnhfaaGreatJ09
import Derived.Test.YtdgoilkgplnhfaaGreatJ13
namespace Go.Proofs
open Go.Shelf
def Tryz.sortSp_ren:Go.Shelf.Ren:=⟨fun|6=>147|15=>128|14=>165|28=>158|29=>159|20=>179|21=>180|22=>181|23=>182|24=>183|25=>184|26=>185|27=>186|46=>191|47=>167|48=>168|49=>192|50=>193|57=>195|n=>n,fun|22=>94|24=>175|25=>195|3=>3|39=>183|0=>0|53=>205|55=>207|4=>4|46=>199|45=>198|50=>134|5=>5|9=>9|66=>212|70=>216|76=>228|77=>229|n=>n,fun|n=>n⟩
def Tryz.sortI_ren:Go.Shelf.Ren:=⟨fun|6=>135|15=>128|14=>163|28=>158|29=>159|20=>171|21=>172|22=>173|23=>174|24=>175|25=>176|26=>177|27=>178|46=>188|47=>167|48=>168|49=>189|50=>190|57=>194|n=>n,fun|22=>22|24=>3|25=>59|3=>3|39=>183|0=>0|53=>205|55=>207|4=>4|46=>199|45=>198|50=>134|5=>5|9=>9|66=>212|70=>216|76=>228|77=>229|n=>n,fun|n=>n⟩
def Tryz.sortP_ren:Go.Shelf.Ren:=⟨fun|6=>96|15=>128|14=>127|28=>158|29=>159|20=>150|21=>151|22=>152|23=>153|24=>154|25=>155|26=>156|27=>157|46=>166|47=>167|48=>168|49=>169|50=>170|57=>187|n=>n,fun|22=>44|24=>48|25=>146|3=>3|39=>183|0=>0|53=>205|55=>207|4=>4|46=>199|45=>198|50=>134|5=>5|9=>9|66=>212|70=>216|76=>228|77=>229|n=>n,fun|n=>n⟩
theorem Tryz.sortP:Go.Proofs.SlLaysF0.n6 Tryz.prog Tryz.sortP_ren:={
 mixed:=by kernel_rfl
 f6:=⟨Tryz.f96.name,by decide,Tryz.func96.trans (congrArg some (by kernel_rfl))⟩
 f14:=⟨Tryz.f127.name,by decide,Tryz.func127.trans (congrArg some (by kernel_rfl))⟩
 f15:=Tryz.func128.trans (congrArg some (by kernel_rfl))
 f20:=⟨Tryz.f150.name,by decide,Tryz.func150.trans (congrArg some (by kernel_rfl))⟩
 f21:=⟨Tryz.f151.name,by decide,Tryz.func151.trans (congrArg some (by kernel_rfl))⟩
 f22:=⟨Tryz.f152.name,by decide,Tryz.func152.trans (congrArg some (by kernel_rfl))⟩
 f23:=⟨Tryz.f153.name,by decide,Tryz.func153.trans (congrArg some (by kernel_rfl))⟩
 f24:=⟨Tryz.f154.name,by decide,Tryz.func154.trans (congrArg some (by kernel_rfl))⟩
 f25:=⟨Tryz.f155.name,by decide,Tryz.func155.trans (congrArg some (by kernel_rfl))⟩
 f26:=⟨Tryz.f156.name,by decide,Tryz.func156.trans (congrArg some (by kernel_rfl))⟩
 f27:=⟨Tryz.f157.name,by decide,Tryz.func157.trans (congrArg some (by kernel_rfl))⟩
 f28:=Tryz.func158.trans (congrArg some (by kernel_rfl))
 f29:=Tryz.func159.trans (congrArg some (by kernel_rfl))
 f46:=⟨Tryz.f166.name,by decide,Tryz.func166.trans (congrArg some (by kernel_rfl))⟩
 f47:=Tryz.func167.trans (congrArg some (by kernel_rfl))
 f48:=Tryz.func168.trans (congrArg some (by kernel_rfl))
 f49:=⟨Tryz.f169.name,by decide,Tryz.func169.trans (congrArg some (by kernel_rfl))⟩
 f50:=⟨Tryz.f170.name,by decide,Tryz.func170.trans (congrArg some (by kernel_rfl))⟩
 f57:=⟨Tryz.f187.name,by decide,Tryz.func187.trans (congrArg some (by kernel_rfl))⟩
 t0:=Tryz.underlying0
 a0:=Tryz.isAgg0
 z0:=Tryz.sizeOf0
 v0:=Tryz.zeroValue0
 t3:=Tryz.underlying3
 a3:=Tryz.isAgg3
 z3:=Tryz.sizeOf3
 v3:=Tryz.zeroValue3
 t4:=Tryz.underlying4
 a4:=Tryz.isAgg4
 z4:=Tryz.sizeOf4
 v4:=Tryz.zeroValue4
 t5:=Tryz.underlying5
 a5:=Tryz.isAgg5
 z5:=Tryz.sizeOf5
 v5:=Tryz.zeroValue5
 t9:=Tryz.underlying9
 a9:=Tryz.isAgg9
 z9:=Tryz.sizeOf9
 v9:=Tryz.zeroValue9
 t22:=Tryz.underlying44
 a22:=Tryz.isAgg44
 z22:=Tryz.sizeOf44
 v22:=Tryz.zeroValue44
 t25:=Tryz.underlying146
 a25:=Tryz.isAgg146
 z25:=Tryz.sizeOf146
 v25:=Tryz.zeroValue146
 t39:=Tryz.underlying183
 a39:=Tryz.isAgg183
 z39:=Tryz.sizeOf183
 v39:=Tryz.zeroValue183
 t45:=Tryz.underlying198
 a45:=Tryz.isAgg198
 z45:=Tryz.sizeOf198
 v45:=Tryz.zeroValue198
 t46:=Tryz.underlying199
 a46:=Tryz.isAgg199
 z46:=Tryz.sizeOf199
 v46:=Tryz.zeroValue199
 t50:=Tryz.underlying134
 a50:=Tryz.isAgg134
 z50:=Tryz.sizeOf134
 v50:=Tryz.zeroValue134
 t53:=Tryz.underlying205
 a53:=Tryz.isAgg205
 z53:=Tryz.sizeOf205
 v53:=Tryz.zeroValue205
 t55:=Tryz.underlying207
 a55:=Tryz.isAgg207
 z55:=Tryz.sizeOf207
 v55:=Tryz.zeroValue207
 t66:=Tryz.underlying212
 a66:=Tryz.isAgg212
 z66:=Tryz.sizeOf212
 v66:=Tryz.zeroValue212
 t70:=Tryz.underlying216
 a70:=Tryz.isAgg216
 z70:=Tryz.sizeOf216
 v70:=Tryz.zeroValue216
 t76:=Tryz.underlying228
 a76:=Tryz.isAgg228
 z76:=Tryz.sizeOf228
 v76:=Tryz.zeroValue228
 t77:=Tryz.underlying229
 a77:=Tryz.isAgg229
 z77:=Tryz.sizeOf229
 v77:=Tryz.zeroValue229 }
def Tryz.cmpInt_ren:Go.Shelf.Ren:=⟨fun|5=>129|7=>160|n=>n,fun|22=>3|3=>3|4=>4|n=>n,fun|n=>n⟩
theorem Tryz.cmpInt:Go.Proofs.SlLaysC2.n5 Tryz.prog Tryz.cmpInt_ren:={
 mixed:=by kernel_rfl
 f5:=⟨Tryz.f129.name,by decide,Tryz.func129.trans (congrArg some (by kernel_rfl))⟩
 f7:=⟨Tryz.f160.name,by decide,Tryz.func160.trans (congrArg some (by kernel_rfl))⟩
 t3:=Tryz.underlying3
 a3:=Tryz.isAgg3
 z3:=Tryz.sizeOf3
 v3:=Tryz.zeroValue3
 t4:=Tryz.underlying4
 a4:=Tryz.isAgg4
 z4:=Tryz.sizeOf4
 v4:=Tryz.zeroValue4
 t22:=Tryz.underlying3
 a22:=Tryz.isAgg3
 z22:=Tryz.sizeOf3
 v22:=Tryz.zeroValue3 }
end Go.Proofs
namespace Go.Proofs.YtdgoilkgplnhfaaGreat
open Go.RowKit Go.Lib Go.Sort Go.Shelf
def qam (L:List Spn):List Value:=L.flatMap fun s=>[.int .i64 s.1,.int .i64 s.2]
theorem qcj (s:Spn) (L:List Spn):qam (s::L)=.int .i64 s.1::.int .i64 s.2::qam L:=rfl
theorem qcx (L M:List Spn):qam (L++M)=qam L++qam M:=by simp[qam]
theorem qaw (L:List Spn):(qam L).length=L.length*2:=by
 induction L with
 |nil=>rfl
 |cons s L ih=>simp only[qcj,List.length_cons,ih];omega
theorem qbk (L:List Spn):∀i,i<L.length→(qam L)[i*2]? =some (.int .i64 (L.getD i (0,0)).1)∧(qam L)[i*2+1]? =some (.int .i64 (L.getD i (0,0)).2):=by
 induction L with
 |nil=>intro i hi;simp at hi
 |cons s L ih=>
  intro i hi;cases i with
  |zero=>simp[qcj]
  |succ i=>
   have:=ih i (by simpa using hi);rw[show(i+1)*2=i*2+1+1 by omega];simp only[qcj,List.getElem?_cons_succ,List.getD_cons_succ];exact this
theorem qg1 (L:List Spn):∀u∈qam L,u.oneCell'=true:=by
 intro u hu;simp only[qam,List.mem_flatMap,List.mem_cons,List.not_mem_nil,or_false] at hu;obtain⟨s,_,rfl|rfl⟩:=hu<;>rfl
def qn0 (w:World) (base:Nat) (v:Value) (L:List Spn):Prop:=w.ownsRow base 175 2 v L.length (qam L)
theorem qn0.nil (w:World) (base:Nat):qn0 w base (.slice none 0 0) []:=World.ownsRow_nil w base 175 2
theorem qn0.shape {w:World} {base:Nat} {v:Value} {L:List Spn} (h:qn0 w base v L):∃ao cap,v=.slice ao L.length cap∧qge w ao L∧(∀a,ao=some a→base≤a.block∧a.block<w.heap.size):=by
 have hh:w.ownsRow base 175 2 v L.length (qam L):=h;rcases hh.2 with⟨rfl,hn⟩|⟨g,cap,cur,rfl,hb,hg,r⟩
 ·exact⟨none,0,by rw[hn],.inl (List.length_eq_zero_iff.1 hn),fun a ha=>by cases ha⟩
 ·refine⟨_,cap,rfl,?_,fun a ha=>by cases ha;exact⟨hb,lt_of_block hg⟩⟩
  refine .inr ⟨g,0,rfl,lt_of_block hg,fun i hi=>?_⟩;have:=qbk L i hi;rw[Nat.zero_add];exact⟨(World.ownsRow.cellAt hh (i*2) (by omega)).trans this.1,(World.ownsRow.cellAt hh (i*2+1) (by omega)).trans this.2⟩
theorem qdn (A:List Spn) (s:Spn):qam (A++[s])=qam A++[.int .i64 s.1,.int .i64 s.2]:=by rw[qcx];rfl
def encS (x:Spn):List Value:=[.int .i64 x.1,.int .i64 x.2]
theorem qlg {α:Type} [Inhabited α] {d d':Array α} (h:PermIn 0 d.size d d'):d'.toList.Perm d.toList:=by
 have h2:=h.2.2;have e1:(d'.extract 0 d.size).toList=d'.toList:=by rw[←h.1];simp
 have e2:(d.extract 0 d.size).toList=d.toList:=by simp
 rwa [e1,e2] at h2
def qkp (x y:Spn):Int:=if Lib.compareInt x.1 y.1=0 then Lib.compareInt x.2 y.2 else Lib.compareInt x.1 y.1
set_option maxRecDepth 100000 in
set_option maxHeartbeats 4000000 in
theorem qe1 (x y:Spn) (g h:Nat) (w:World) (x0:w.cell? ⟨g,0,none⟩=some (.int .i64 x.1)) (x1:w.cell? ⟨g,1,none⟩=some (.int .i64 x.2)) (y0:w.cell? ⟨h,0,none⟩=some (.int .i64 y.1)) (y1:w.cell? ⟨h,1,none⟩=some (.int .i64 y.2)):
 Calls Tryz.prog 98 #[.slice (some ⟨g,0,none⟩) 2 2,.slice (some ⟨h,0,none⟩) 2 2] w fun e w'=>e=.returned (.int .i64 (qkp x y))∧w'=w:=by
 obtain⟨xa,xb⟩:=x;obtain⟨ya,yb⟩:=y;have hc1:∀W',Calls Tryz.prog 129 #[.int .i64 xa,.int .i64 ya] W' fun e w'=>e=.returned (.int .i64 (Lib.compareInt xa ya))∧w'=W':=fun W'=>AnyG.cmp_Compare_int Tryz.cmpInt xa ya W'
 have hc2:∀W',Calls Tryz.prog 129 #[.int .i64 xb,.int .i64 yb] W' fun e w'=>e=.returned (.int .i64 (Lib.compareInt xb yb))∧w'=W':=fun W'=>AnyG.cmp_Compare_int Tryz.cmpInt xb yb W'
 have HE:Hid (qkp (xa,xb) (ya,yb)=if Lib.compareInt xa ya=0 then Lib.compareInt xb yb else Lib.compareInt xa ya):=rfl;rw[HE.out];simp only at x0 x1 y0 y1;generalize Lib.compareInt xa ya=r1 at *;generalize Lib.compareInt xb yb=r2 at *;clear HE;have HC1:=qaa hc1;have HC2:=qaa hc2;clear hc1 hc2;go_enter Tryz.func98,Tryz.ntmps98;go_wp2;go_loopg [11] 4 (fun gg c wr=>wr=w∧((c=.int .i64 0∧3≤gg)∨(c=.int .i64 1∧r1=0∧2≤gg)∨(c=.int .i64 2∧r1=0∧r2=0∧1≤gg)))
 case atStart=>exact⟨rfl,.inl ⟨rfl,by omega⟩⟩
 case round=>
  obtain⟨rfl,⟨rfl,hg⟩|⟨rfl,h1,hg⟩|⟨rfl,h1,h2,hg⟩⟩:=hrel
  ·by_cases hr:r1=0
   ·go_wp2_with (go_at_call 129;refine(HC1.out _).mono ?_;rintro e w3 ⟨rfl,hw3⟩;have hw3:=hw3.symm;subst hw3)
    go_roundg 2
    case measure=>omega
    case rel=>exact⟨rfl,.inr (.inl ⟨rfl,hr,by omega⟩)⟩
   ·go_wp2_with (go_at_call 129;refine(HC1.out _).mono ?_;rintro e w3 ⟨rfl,hw3⟩;have hw3:=hw3.symm;subst hw3)
    go_ret;exact⟨rfl,rfl⟩
  ·have H1:=qaa h1
   clear h1;by_cases hr:r2=0
   ·go_wp2_with (go_at_call 129;refine(HC2.out _).mono ?_;rintro e w3 ⟨rfl,hw3⟩;have hw3:=hw3.symm;subst hw3)
    go_roundg 1
    case measure=>omega
    case rel=>exact⟨rfl,.inr (.inr ⟨rfl,H1.out,hr,by omega⟩)⟩
   ·go_wp2_with (go_at_call 129;refine(HC2.out _).mono ?_;rintro e w3 ⟨rfl,hw3⟩;have hw3:=hw3.symm;subst hw3)
    go_ret
    first|exact⟨rfl,rfl⟩|exact⟨by rw[if_pos H1.out];rfl,rfl⟩
  ·have H1:=qaa h1
   have H2:=qaa h2;clear h1 h2;go_wp2;go_ret;have h1:=H1.out;have h2:=H2.out;subst h1 h2
   first|exact⟨rfl,rfl⟩|(simp;done)
set_option maxRecDepth 100000 in
theorem qjg (x y:Spn) (W:World):Calls Tryz.prog 97 #[.agg #[.int .i64 x.1,.int .i64 x.2],.agg #[.int .i64 y.1,.int .i64 y.2]] W fun e w'=>e=.returned (.int .i64 (qkp x y))∧∃q os',w'=grow (W.drewN q) os':=by
 obtain⟨W2,hW2⟩:∃W2,W2=(W.alloc (.cells #[.int .i64 x.1,.int .i64 x.2] 48)).alloc (.cells #[.int .i64 y.1,.int .i64 y.2] 48):=⟨_,rfl⟩;have e1:(W.alloc (.cells #[.int .i64 x.1,.int .i64 x.2] 48)).heap.size=W.heap.size+1:=by simp
 have B2:=heap_alloc_new (W.alloc (.cells #[.int .i64 x.1,.int .i64 x.2] 48)) (.cells #[.int .i64 y.1,.int .i64 y.2] 48);have X2:Below (W.alloc (.cells #[.int .i64 x.1,.int .i64 x.2] 48)).heap.size (W.alloc (.cells #[.int .i64 x.1,.int .i64 x.2] 48)) ((W.alloc (.cells #[.int .i64 x.1,.int .i64 x.2] 48)).alloc (.cells #[.int .i64 y.1,.int .i64 y.2] 48)):=(Below.refl _ _).alloc (Nat.le_refl _) _;have B1:=(X2.block W.heap.size (by omega)).trans (heap_alloc_new W (.cells #[.int .i64 x.1,.int .i64 x.2] 48));clear X2;rw[e1] at B2;rw[←hW2] at B1 B2;have HC:Hid (∀n,Calls Tryz.prog 98 #[.slice (some ⟨W.heap.size,0,none⟩) 2 2,.slice (some ⟨W.heap.size+1,0,none⟩) 2 2] (W2.drewN n) fun e w'=>e=.returned (.int .i64 (qkp x y))∧w'=W2.drewN n):=fun n=>by
  have b1:(W2.drewN n).heap[W.heap.size]? =_:=B1;have b2:(W2.drewN n).heap[W.heap.size+1]? =_:=B2;exact qe1 x y _ _ _ (by rw[cell_of_row _ _ _ _ _ _ b1];rfl) (by rw[cell_of_row _ _ _ _ _ _ b1];rfl) (by rw[cell_of_row _ _ _ _ _ _ b2];rfl) (by rw[cell_of_row _ _ _ _ _ _ b2];rfl)
 have HG:Hid (∀n,∃q os',W2.drewN n=grow (W.drewN q) os'):=fun n=>⟨n,_,by rw[hW2,alloc_eq_grow,alloc_eq_grow,grow_grow];rfl⟩
 generalize qkp x y=r at *;clear B1 B2 e1;go_enter Tryz.func97,Tryz.ntmps97;go_upto_region 1 with fail
 rw[←hW2];clear hW2;go_region_held3 (fun _=>True) (trivial) (first|(go_at_call 98;refine(HC.out 1).mono ?_;rintro e w3 ⟨rfl,hw3⟩;have hw3:=hw3.symm;subst hw3))
 all_goals
  go_wp2;go_ret;exact⟨rfl,HG.out 1⟩
end Go.Proofs.YtdgoilkgplnhfaaGreat
namespace Go.Proofs
open Go.Shelf
theorem Tryz.sortN:Go.Proofs.SlLaysF.n6 Tryz.prog Tryz.sortI_ren:={
 mixed:=by kernel_rfl
 f6:=⟨Tryz.f135.name,by decide,Tryz.func135.trans (congrArg some (by kernel_rfl))⟩
 f14:=⟨Tryz.f163.name,by decide,Tryz.func163.trans (congrArg some (by kernel_rfl))⟩
 f15:=Tryz.func128.trans (congrArg some (by kernel_rfl))
 f20:=⟨Tryz.f171.name,by decide,Tryz.func171.trans (congrArg some (by kernel_rfl))⟩
 f21:=⟨Tryz.f172.name,by decide,Tryz.func172.trans (congrArg some (by kernel_rfl))⟩
 f22:=⟨Tryz.f173.name,by decide,Tryz.func173.trans (congrArg some (by kernel_rfl))⟩
 f23:=⟨Tryz.f174.name,by decide,Tryz.func174.trans (congrArg some (by kernel_rfl))⟩
 f24:=⟨Tryz.f175.name,by decide,Tryz.func175.trans (congrArg some (by kernel_rfl))⟩
 f25:=⟨Tryz.f176.name,by decide,Tryz.func176.trans (congrArg some (by kernel_rfl))⟩
 f26:=⟨Tryz.f177.name,by decide,Tryz.func177.trans (congrArg some (by kernel_rfl))⟩
 f27:=⟨Tryz.f178.name,by decide,Tryz.func178.trans (congrArg some (by kernel_rfl))⟩
 f28:=Tryz.func158.trans (congrArg some (by kernel_rfl))
 f29:=Tryz.func159.trans (congrArg some (by kernel_rfl))
 f46:=⟨Tryz.f188.name,by decide,Tryz.func188.trans (congrArg some (by kernel_rfl))⟩
 f47:=Tryz.func167.trans (congrArg some (by kernel_rfl))
 f48:=Tryz.func168.trans (congrArg some (by kernel_rfl))
 f49:=⟨Tryz.f189.name,by decide,Tryz.func189.trans (congrArg some (by kernel_rfl))⟩
 f50:=⟨Tryz.f190.name,by decide,Tryz.func190.trans (congrArg some (by kernel_rfl))⟩
 f57:=⟨Tryz.f194.name,by decide,Tryz.func194.trans (congrArg some (by kernel_rfl))⟩
 t0:=Tryz.underlying0
 a0:=Tryz.isAgg0
 z0:=Tryz.sizeOf0
 v0:=Tryz.zeroValue0
 t3:=Tryz.underlying3
 a3:=Tryz.isAgg3
 z3:=Tryz.sizeOf3
 v3:=Tryz.zeroValue3
 t4:=Tryz.underlying4
 a4:=Tryz.isAgg4
 z4:=Tryz.sizeOf4
 v4:=Tryz.zeroValue4
 t5:=Tryz.underlying5
 a5:=Tryz.isAgg5
 z5:=Tryz.sizeOf5
 v5:=Tryz.zeroValue5
 t9:=Tryz.underlying9
 a9:=Tryz.isAgg9
 z9:=Tryz.sizeOf9
 v9:=Tryz.zeroValue9
 t22:=Tryz.underlying22
 a22:=Tryz.isAgg22
 z22:=Tryz.sizeOf22
 v22:=Tryz.zeroValue22
 a24:=Tryz.isAgg3
 z24:=Tryz.sizeOf3
 t25:=Tryz.underlying59
 a25:=Tryz.isAgg59
 z25:=Tryz.sizeOf59
 v25:=Tryz.zeroValue59
 t39:=Tryz.underlying183
 a39:=Tryz.isAgg183
 z39:=Tryz.sizeOf183
 v39:=Tryz.zeroValue183
 t45:=Tryz.underlying198
 a45:=Tryz.isAgg198
 z45:=Tryz.sizeOf198
 v45:=Tryz.zeroValue198
 t46:=Tryz.underlying199
 a46:=Tryz.isAgg199
 z46:=Tryz.sizeOf199
 v46:=Tryz.zeroValue199
 t50:=Tryz.underlying134
 a50:=Tryz.isAgg134
 z50:=Tryz.sizeOf134
 v50:=Tryz.zeroValue134
 t53:=Tryz.underlying205
 a53:=Tryz.isAgg205
 z53:=Tryz.sizeOf205
 v53:=Tryz.zeroValue205
 t55:=Tryz.underlying207
 a55:=Tryz.isAgg207
 z55:=Tryz.sizeOf207
 v55:=Tryz.zeroValue207
 t66:=Tryz.underlying212
 a66:=Tryz.isAgg212
 z66:=Tryz.sizeOf212
 v66:=Tryz.zeroValue212
 t70:=Tryz.underlying216
 a70:=Tryz.isAgg216
 z70:=Tryz.sizeOf216
 v70:=Tryz.zeroValue216
 t76:=Tryz.underlying228
 a76:=Tryz.isAgg228
 z76:=Tryz.sizeOf228
 v76:=Tryz.zeroValue228
 t77:=Tryz.underlying229
 a77:=Tryz.isAgg229
 z77:=Tryz.sizeOf229
 v77:=Tryz.zeroValue229 }
end Go.Proofs
namespace Go.Proofs.YtdgoilkgplnhfaaGreat
open Go.RowKit Go.Lib Go.Sort
def orZ (a c:Int):Int:=if a=0 then c else a
set_option maxRecDepth 100000 in
theorem qn8 (b cap:Nat) (a c:Int) (w:World) (h0:w.cell? ⟨b,0,none⟩=some (.int .i64 a)) (h1:w.cell? ⟨b,1,none⟩=some (.int .i64 c)):
 Calls Tryz.prog 137 #[.slice (some ⟨b,0,none⟩) 2 cap] w fun e w'=>e=.returned (.int .i64 (orZ a c))∧w'=w:=by
 have HC:Hid (∀i,i<2→w.cell? ⟨b,i,none⟩=some (.int .i64 (if i=0 then a else c))):=fun i hi=>by
  match i,hi with
  |0,_=>simpa using h0
  |1,_=>simpa using h1
 clear h0 h1;go_enter Tryz.func137,Tryz.ntmps137;go_wp2;go_loopg [8] 3 (fun g x wr=>∃i:Nat,x=.int .i64 (i:Nat)∧i≤2∧Hid ((1≤i→a=0)∧(2≤i→c=0))∧wr=w∧2-i<g)
 case atStart=>exact⟨0,rfl,by omega,⟨fun h=>by omega,fun h=>by omega⟩,rfl,by omega⟩
 case round=>
  obtain⟨i,rfl,hi2,HZ,rfl,hg⟩:=hrel;have HG:=qaa hg;clear hg;by_cases hi:i<2
  ·have hi':(i:Int)<2:=by omega
   have ci:=HC.out i hi;obtain⟨z,hz⟩:∃z,z=(if i=0 then a else c):=⟨_,rfl⟩;rw[←hz] at ci;have HZZ:=qaa hz;clear hz;by_cases hzz:z=0
   ·have hzz':¬ ¬z=0:=fun h=>h hzz
    go_wp2;go_roundg (2-(i+1)+1)
    case measure=>have:=HG.out;omega
    case rel=>
     refine⟨i+1,by first|rfl|go_num|(congr 1;omega),by omega,⟨fun _=>?_,fun h=>?_⟩,rfl,by omega⟩
     ·by_cases e:i=0
      ·have:=HZZ.out;rw[if_pos e] at this;rw[←this];exact hzz
      ·exact HZ.out.1 (by omega)
     ·have:=HZZ.out;rw[if_neg (by omega)] at this;rw[←this];exact hzz
   ·go_wp2
    go_ret;refine⟨?_,rfl⟩;have:=HZZ.out;unfold orZ;by_cases e:i=0
    ·rw[if_pos e] at this;subst this;rw[if_neg hzz];rfl
    ·rw[if_neg e] at this;subst this;rw[if_pos (HZ.out.1 (by omega))];rfl
  ·have hi':¬(i:Int)<2:=by omega
   go_wp2;go_ret;have h1:=HZ.out.1 (by omega);have h2:=HZ.out.2 (by omega);refine⟨?_,rfl⟩;unfold orZ;rw[if_pos h1,h2];rfl
theorem qn9 (a b:Int) (W:World):Calls Tryz.prog 129 #[.int .i64 a,.int .i64 b] W fun e w'=>e=.returned (.int .i64 (Lib.compareInt a b))∧w'=W:=AnyG.cmp_Compare_int Tryz.cmpInt a b W
def cfO (OU:List Nat) (x y:Nat):Int:=orZ (Lib.compareInt (gN OU x:Int) (gN OU y:Int)) (Lib.compareInt (x:Int) (y:Int))
set_option maxRecDepth 100000 in
set_option maxHeartbeats 2000000 in
theorem qic (oa:Option Addr) (oc cb x y:Nat) (OU:List Nat) (w:World) (hx:x<OU.length) (hy:y<OU.length) (hcb:w.cell? ⟨cb,0,none⟩=some (.slice oa OU.length oc)) (hcl:cb<w.heap.size) (hat:NAt w oa OU):
 Calls Tryz.prog 136 #[.int .i64 (x:Nat),.int .i64 (y:Nat),.pointer (some ⟨cb,0,none⟩)] w fun e w'=>e=.returned (.int .i64 (cfO OU x y))∧∃q os',w'=grow (w.drewN q) os':=by
 obtain⟨ob,off,rfl,hob,c1⟩:=hat.get hx;obtain⟨_,_,e0,_,c2⟩:=hat.get hy;simp only[Option.some.injEq,Addr.mk.injEq,and_true] at e0;obtain⟨rfl,rfl⟩:=e0;rw[←qah hx] at c1;rw[←qah hy] at c2;have x':(x:Int)<(OU.length:Int):=by omega
 have y':(y:Int)<(OU.length:Int):=by omega
 have H129:=qaa qn9;unfold cfO;clear hat;generalize gN OU x=a at *;generalize gN OU y=b at *;have B1:=heap_alloc_new w (.cells #[.int .i64 (Lib.compareInt (a:Int) (b:Int)),.int .i64 (Lib.compareInt (x:Int) (y:Int))] 3);have HOR:=qaa (qn8 w.heap.size 2 (Lib.compareInt (a:Int) (b:Int)) (Lib.compareInt (x:Int) (y:Int)) (w.alloc (.cells #[.int .i64 (Lib.compareInt (a:Int) (b:Int)),.int .i64 (Lib.compareInt (x:Int) (y:Int))] 3)).drew (by show(w.alloc (.cells #[.int .i64 (Lib.compareInt (a:Int) (b:Int)),.int .i64 (Lib.compareInt (x:Int) (y:Int))] 3)).cell? _=_;rw[cell_of_row _ _ _ _ _ _ B1];rfl) (by show(w.alloc (.cells #[.int .i64 (Lib.compareInt (a:Int) (b:Int)),.int .i64 (Lib.compareInt (x:Int) (y:Int))] 3)).cell? _=_;rw[cell_of_row _ _ _ _ _ _ B1];rfl));have n1:¬cb=w.heap.size:=by omega
 have n2:¬ob=w.heap.size:=by omega
 clear B1;go_enter Tryz.func136,Tryz.ntmps136;go_wp2;go_region_held3 (fun w'=>w'.cell? ⟨cb,0,none⟩=some (.slice (some ⟨ob,off,none⟩) OU.length oc)∧w'.cell? ⟨ob,off+x,none⟩=some (.int .i64 (a:Int))∧w'.cell? ⟨ob,off+y,none⟩=some (.int .i64 (b:Int))) (first|assumption|exact⟨hcb,c1,c2⟩|(simp[go_sem, *];done))
  ((first
    |(go_at_call 129;refine(H129.out _ _ _).mono ?_;rintro e w' ⟨rfl,rfl⟩)
    |(go_at_call 137;refine HOR.out.mono ?_;rintro e w' ⟨rfl,rfl⟩)))
 all_goals
  go_wp2;go_ret;exact⟨rfl,1,#[.cells #[.int .i64 (Lib.compareInt (a:Int) (b:Int)),.int .i64 (Lib.compareInt (x:Int) (y:Int))] 3 (0,0)],by rw[alloc_eq_grow];rfl⟩
theorem qdc (a b:Int):(Lib.compareInt a b<0↔a<b)∧(Lib.compareInt a b=0↔a=b):=by
 unfold Lib.compareInt;by_cases h1:a<b
 ·simp[h1];omega
 ·by_cases h2:b<a
  ·simp[h1,h2];omega
  ·simp[h1,h2];omega
theorem qoa (OU:List Nat) (x y:Nat):cfO OU x y<0↔(gN OU x<gN OU y∨(gN OU x=gN OU y∧x<y)):=by
 unfold cfO orZ;have h1:=qdc (gN OU x:Int) (gN OU y:Int);have h2:=qdc (x:Int) (y:Int);by_cases e:Lib.compareInt (gN OU x:Int) (gN OU y:Int)=0
 ·rw[if_pos e,h2.1]
  have:=h1.2.1 e;omega
 ·rw[if_neg e,h1.1]
  have:¬(gN OU x:Int)=(gN OU y:Int):=fun h=>e (h1.2.2 h)
  omega
theorem ltO (n:Nat) (OU:List Nat) (x y:Fin n):ltOf (fun x y:Fin n=>cfO OU x.val y.val) x y=decide (gN OU x.val<gN OU y.val∨(gN OU x.val=gN OU y.val∧x.val<y.val)):=by
 unfold ltOf;simp only[qoa]
theorem swoO (n:Nat) (OU:List Nat):SWO (ltOf fun x y:Fin n=>cfO OU x.val y.val) where
 irrefl x:=by rw[ltO];simp
 trans x y z h1 h2:=by rw[ltO] at *;simp only[decide_eq_true_eq] at *;omega
 ntrans x y z h1 h2:=by rw[ltO] at *;simp only[decide_eq_false_iff_not] at *;omega
section
variable {α:Type} [Inhabited α]
theorem heap_sorted (enc:α→Value) {w:World} {g n:Nat} {os:Array Obj} {cur:Array Value} {e:TypeId} {fr:Nat×Nat} (d:Array α) (hb:w.heap[g]? =some (.cells cur e fr)):(sortWorld enc w g 0 n d os).heap[g]? =some (.cells (putCells enc 0 d cur) e fr):=by
 have hg:g<w.heap.size:=(Array.getElem?_eq_some_iff.1 hb).1;unfold sortWorld;rw[heap_grow_old _ _ (by simpa using hg)];simp[putRow,mapBlock,Sort.ahead,Array.getElem?_modify,hb,onCells]
theorem qd1 (enc:α→Value) {w:World} {g n:Nat} {os:Array Obj} (d:Array α):Kept (fun b=>b=g) w (sortWorld enc w g 0 n d os):=by
 refine⟨rfl,rfl,rfl,by simp[sortWorld],fun k hk hne=>?_⟩;unfold sortWorld;rw[heap_grow_old _ _ (by simpa using hk)];have:g≠k:=fun e=>hne e.symm
 simp[putRow,mapBlock,Sort.ahead,Array.getElem?_modify,this]
theorem qlh (enc:α→Value) (cur:Array Value) (d:Array α) (h:d.size≤cur.size):(putCells enc 0 d cur).toList.take d.size=d.toList.map enc:=by
 apply List.ext_getElem?;intro j;by_cases hj:j<d.size
 ·rw[List.getElem?_take_of_lt hj,Array.getElem?_toList]
  simp[putCells,hj,show j<cur.size by omega]
 ·rw[List.getElem?_take_eq_none (by omega),List.getElem?_eq_none (by simp;omega)]
end
theorem qjh:∀args w,(callFunc 136 args).run Tryz.prog w=.ok (.enter 136 args) w:=enters_of Tryz.func136 (by kernel_rfl) rfl
set_option maxRecDepth 100000 in
theorem qji {n:Nat} (w:World) (base pb lg lc cb oc:Nat) (oa:Option Addr) (pv ov rv:Value) (L P O OU:List Nat) (R:List Rm) (h:PrM w base pb (.slice (some ⟨lg,0,none⟩) n lc) pv ov rv L P O R) (hl:L.length=n) (hL:∀j,j<n→gN L j=j) (hou:OU.length=n) (hn0:0<n) (hn:n≤65536) (hcb:w.cell? ⟨cb,0,none⟩=some (.slice oa OU.length oc)) (hcl:cb<w.heap.size) (hcn:¬cb=lg) (hat:NAt w oa OU) (hon:∀b off,oa=some ⟨b,off,none⟩→¬b=lg):
 Calls Tryz.prog 135 #[.slice (some ⟨lg,0,none⟩) n lc,.func (.func 136) #[] #[.pointer (some ⟨cb,0,none⟩)]] w fun e w'=>e=.returned (.tuple #[])∧∃L',LsS n OU L'∧PrM w' base pb (.slice (some ⟨lg,0,none⟩) n lc) pv ov rv L' P O R∧Kept (fun b=>b=lg) w w':=by
 have inst:Inhabited (Fin n):=⟨⟨0,hn0⟩⟩;have oL:w.ownsRow base 3 1 (.slice (some ⟨lg,0,none⟩) n lc) L.length (qab L):=h.rws.own 0 (by simp);rw[hl] at oL;have hlg:=(World.ownsRow.lt oL lg rfl);obtain⟨cur,hcur,hcs,hc1,hc2⟩:∃cur,w.heap[lg]? =some (.cells cur 3 (0,0))∧cur.size=lc∧n≤lc∧lc≤maxLen:=by
  rcases oL.2 with⟨e,_⟩|⟨g',cap',cur,hv,_,h3,h4,h5,h6,_⟩
  ·cases e
  ·injection hv with e1 _ e3
   injection e1 with e1
   injection e1 with e1 _ _
   subst e1 e3;exact⟨cur,h3,by omega,h4,h5⟩
 have hH:Holds (fun i:Fin n=>Value.int .i64 ((i.val:Nat):Int)) w lg 0 (Array.ofFn (fun i:Fin n=>i)):=by
  intro j hj;have hj':j<n:=by simpa using hj
  refine⟨?_,oL.frozenAt _⟩;rw[Nat.zero_add,oL.cellAt j (by omega),qde L j (by omega),←qah (show j<L.length by omega),hL j hj'];simp[hj']
 have hcmp:CmpLays1 Tryz.prog 136 #[.pointer (some ⟨cb,0,none⟩)] (fun i:Fin n=>Value.int .i64 ((i.val:Nat):Int)) (fun x y:Fin n=>cfO OU x.val y.val) lg 0 (Array.ofFn (fun i:Fin n=>i)).size w:=fun m os dk _ x y=>by
  have k:=qd1 (fun i:Fin n=>Value.int .i64 ((i.val:Nat):Int)) (w:=w) (g:=lg) (n:=m) (os:=os) dk;exact qic oa oc cb x.val y.val OU _ (by rw[hou];exact x.isLt) (by rw[hou];exact y.isLt) ((k.cell (p:=⟨cb,0,none⟩) hcl hcn).trans hcb) (Nat.lt_of_lt_of_le hcl k.size) (hat.kept k hon)
 have hcon:=Any.slices_SortFunc Tryz.sortN (fun i:Fin n=>Value.int .i64 ((i.val:Nat):Int)) (fun _=>rfl) (fun x y:Fin n=>cfO OU x.val y.val) (swoO n OU) 136 #[.pointer (some ⟨cb,0,none⟩)] lg 0 lc (Array.ofFn (fun i:Fin n=>i)) w qjh hcmp hH hlg.2 (by simp;omega);change Calls Tryz.prog 135 _ _ _ at hcon;simp only[Array.size_ofFn] at hcon;refine hcon.mono ?_;rintro e w' ⟨rfl,d',m,os,hp,hs,rfl⟩;have hsz:d'.size=n:=by simpa using hp.1
 have hperm:d'.toList.Perm (List.finRange n):=by
  have h2:=hp.2.2;have e0:∀k,k=d'.size→(d'.extract 0 k).toList=d'.toList:=fun k hk=>by subst hk;simp
  have e1:=e0 n hsz.symm;have e2:((Array.ofFn (fun i:Fin n=>i)).extract 0 n).toList=List.finRange n:=by
   simp[List.finRange];exact List.take_of_length_le (by simp)
  rw[e1,e2] at h2;exact h2
 have hgL:∀i,(hi:i<n)→gN (d'.toList.map Fin.val) i=(d'[i]'(by omega)).val:=fun i hi=>by
  rw[qah (by simp;omega)];simp
 have k:=qd1 (fun i:Fin n=>Value.int .i64 ((i.val:Nat):Int)) (w:=w) (g:=lg) (n:=m) (os:=os) d';refine⟨rfl,d'.toList.map Fin.val,⟨by simp[hsz],fun i hi=>?_,fun i hi j hj e=>?_,fun s hs'=>?_,fun i j hij hj=>?_⟩,?_,k⟩
 ·rw[hgL i hi];exact(d'[i]'(by omega)).isLt
 ·rw[hgL i hi,hgL j hj] at e
  have hnd:d'.toList.Nodup:=hperm.nodup_iff.2 (List.nodup_finRange n);have e':d'[i]'(by omega)=d'[j]'(by omega):=Fin.ext e;have hpw:=List.pairwise_iff_getElem.1 hnd;rcases Nat.lt_trichotomy i j with h1|h1|h1
  ·exact absurd (by rw[Array.getElem_toList,Array.getElem_toList];exact e') (hpw i j _ _ h1)
  ·exact h1
  ·exact absurd (by rw[Array.getElem_toList,Array.getElem_toList];exact e'.symm) (hpw j i _ _ h1)
 ·have:(⟨s,hs'⟩:Fin n)∈d'.toList:=hperm.mem_iff.2 (List.mem_finRange _)
  obtain⟨i,hi,e⟩:=List.mem_iff_getElem.1 this;have hi':i<n:=by simpa [hsz] using hi
  refine⟨i,hi',?_⟩;rw[hgL i hi'];have:d'[i]'(by omega)=⟨s,hs'⟩:=by simpa using e
  rw[this]
 ·by_cases e:i=j
  ·rw[e];exact Nat.le_refl _
  ·have hlt:=hs i j (Nat.zero_le _) (by omega) hj
   rw[ltO] at hlt;simp only[decide_eq_false_iff_not] at hlt;rw[hgL i (by omega),hgL j hj];have a1:d'[i]! =d'[i]'(by omega):=by simp[show i<d'.size by omega]
   have a2:d'[j]! =d'[j]'(by omega):=by simp[show j<d'.size by omega]
   rw[a1,a2] at hlt;omega
 ·have oL':qan (sortWorld (fun i:Fin n=>Value.int .i64 ((i.val:Nat):Int)) w lg 0 m d' os) base (.slice (some ⟨lg,0,none⟩) n lc) (d'.toList.map Fin.val):=by
   unfold qan;have hc:=heap_sorted (fun i:Fin n=>Value.int .i64 ((i.val:Nat):Int)) (n:=m) (os:=os) d' hcur;refine⟨by simp[qab],.inr ⟨lg,lc,_,by simp[hsz],hlg.1,hc,by simp[hsz];omega,hc2,by simp[putCells,hcs],?_⟩⟩;have:=qlh (fun i:Fin n=>Value.int .i64 ((i.val:Nat):Int)) cur d' (by omega);simp only[List.length_map,Array.length_toList,Nat.mul_one];rw[this];simp[qab]
  have oR:w.ownsRow base 164 3 rv R.length (qao R):=h.own;refine⟨(k.block pb (lt_of_block h.blk) (fun e=>h.notpb lg (.inl rfl) e.symm)).trans h.blk,h.ge,h.rws.upd (i:=0) (by simp) oL' k (fun b hb=>by rw[hb];rfl) (fun b hb=>.inl hb),qai h.own k (fun b hb e=>qa5 oR (show w.ownsRow base 3 1 (.slice (some ⟨lg,0,none⟩) n lc) n (qab L) from oL) (by decide) b hb (by rw[e];rfl))⟩
end Go.Proofs.YtdgoilkgplnhfaaGreat
namespace Go.Proofs.YtdgoilkgplnhfaaGreat
open Go.RowKit Go.Lib Go.Sort Go.Shelf
def qa3 (w:World) (base:Nat) (v:Value) (L:List Spn):Prop:=w.ownsRow base 48 2 v L.length (qam L)
def PLe (s t:Spn):Prop:=s.1<t.1∨(s.1=t.1∧s.2≤t.2)
theorem qm3 (x y:Spn):qkp x y<0↔(x.1<y.1∨(x.1=y.1∧x.2<y.2)):=by
 unfold qkp;have h1:=qdc x.1 y.1;have h2:=qdc x.2 y.2;by_cases e:Lib.compareInt x.1 y.1=0
 ·rw[if_pos e,h2.1]
  have:=h1.2.1 e;omega
 ·rw[if_neg e,h1.1]
  have:¬x.1=y.1:=fun h=>e (h1.2.2 h)
  omega
theorem ltP (x y:Spn):ltOf qkp x y=decide (x.1<y.1∨(x.1=y.1∧x.2<y.2)):=by
 unfold ltOf;simp only[qm3]
theorem swoP:SWO (ltOf qkp) where
 irrefl x:=by rw[ltP];simp
 trans x y z h1 h2:=by rw[ltP] at *;simp only[decide_eq_true_eq] at *;omega
 ntrans x y z h1 h2:=by rw[ltP] at *;simp only[decide_eq_false_iff_not] at *;omega
theorem qdo {w:World} {base e size g n cap:Nat} {xs:List Value} {cur:Array Value} (hb:base≤g) (hg:w.heap[g]? =some (.cells cur e (0,0))) (hn:n≤cap) (hc:cap≤maxLen) (hs:cur.size=cap*size) (hl:xs.length=n*size) (h:∀j,j<n*size→w.cell? ⟨g,j,none⟩=xs[j]?):w.ownsRow base e size (.slice (some ⟨g,0,none⟩) n cap) n xs:=by
 refine⟨hl,.inr ⟨g,cap,cur,rfl,hb,hg,hn,hc,hs,?_⟩⟩;apply List.ext_getElem?;intro j;by_cases hj:j<n*size
 ·rw[List.getElem?_take_of_lt hj,←h j hj,cell_of_row _ _ _ _ _ _ hg]
  simp
 ·rw[List.getElem?_take_eq_none (by omega),List.getElem?_eq_none (by omega)]
set_option maxRecDepth 100000 in
theorem qjj (w:World) (base g cap:Nat) (L:List Spn) (hown:qa3 w base (.slice (some ⟨g,0,none⟩) L.length cap) L) (hsz:L.length<4611686018427387904):
 Calls Tryz.prog 96 #[.slice (some ⟨g,0,none⟩) L.length cap,.func (.func 97) #[] #[]] w fun e w'=>e=.returned (.tuple #[])∧∃M:List Spn,M.Perm L∧M.Pairwise PLe∧qa3 w' base (.slice (some ⟨g,0,none⟩) L.length cap) M∧Kept (fun k=>k=g) w w':=by
 have eg:∀args w,(callFunc 97 args).run Tryz.prog w=.ok (.enter 97 args) w:=enters_of Tryz.func97 (by kernel_rfl) rfl;have hh:w.ownsRow base 48 2 (.slice (some ⟨g,0,none⟩) L.length cap) L.length (qam L):=hown;have hg:g<w.heap.size:=(World.ownsRow.lt hh g rfl).2;obtain⟨cur,hcur,hcs,hc1,hc2,hcb⟩:∃cur,w.heap[g]? =some (.cells cur 48 (0,0))∧cur.size=cap*2∧L.length≤cap∧cap≤maxLen∧base≤g:=by
  rcases hh.2 with⟨e,_⟩|⟨g',cap',cur,hv,h2,h3,h4,h5,h6,_⟩
  ·cases e
  ·injection hv with e1 _ e3
   injection e1 with e1
   injection e1 with e1 _ _
   subst e1 e3;exact⟨cur,h3,h6,h4,h5,h2⟩
 have hH:HoldsK encS 2 w g 0 L.toArray:=by
  intro j hj;rw[size_flatK] at hj;have hj':j<L.length*2:=by simpa using hj
  refine⟨?_,hh.frozenAt _⟩;rw[Nat.zero_add,hh.cellAt j hj',get_flatK _ _ _ _ (by simpa using hj')];have hi:j/2<L.length:=by omega
  obtain⟨a1,a2⟩:=qbk L (j/2) hi;rcases Nat.mod_two_eq_zero_or_one j with hm|hm
  ·rw[show j/2*2=j by omega] at a1
   rw[a1,hm];simp[encS,List.getD_eq_getElem?_getD,hi]
  ·rw[show j/2*2+1=j by omega] at a2
   rw[a2,hm];simp[encS,List.getD_eq_getElem?_getD,hi]
 have hcon:=AnyQ.slices_SortFunc Tryz.sortP 2 Tryz.isAgg48 Tryz.sizeOf48 encS (fun _=>rfl) (fun x v hv=>by simp[encS] at hv;rcases hv with rfl|rfl<;>rfl) qkp swoP 97 #[] g 0 cap L.toArray w eg (fun _ _ _ _ x y=>qjg x y _) hH hg (by simpa using hsz);change Calls Tryz.prog 96 _ _ _ at hcon;simp only[List.size_toArray] at hcon;refine hcon.mono ?_;rintro e w' ⟨rfl,d',n,os,hp,hs,rfl⟩;have hsize:d'.size=L.length:=by simpa using hp.1
 have hk:Kept (fun k=>k=g) w (sortWorldK encS 2 w g 0 n d' os):=by
  unfold sortWorldK putRowK;refine⟨rfl,rfl,rfl,by rw[size_grow,size_putRow];exact Nat.le_add_right _ _,fun k hk hne=>?_⟩;rw[heap_grow_old _ _ (by rw[size_putRow];exact hk)];show(w.heap.modify g _)[k]? =_;rw[Array.getElem?_modify,if_neg (fun h=>hne h.symm)]
 refine⟨rfl,d'.toList,?_,?_,?_,hk⟩
 ·have:=qlg (d:=L.toArray) (by simpa using hp);simpa using this
 ·rw[List.pairwise_iff_getElem]
  intro i j hi hj hij;have:=hs i j (Nat.zero_le _) hij (by simpa [hsize] using hj);rw[ltP] at this;simp only[Array.length_toList] at hi hj;simp only[hi,hj,getElem!_pos,decide_eq_false_iff_not] at this;unfold PLe;simp only[Array.getElem_toList];omega
 ·have hHd:HoldsK encS 2 (sortWorldK encS 2 w g 0 n d' os) g 0 d':=by
   unfold sortWorldK;refine holdsK_grow (enc:=encS) (k:=2) _ os g 0 d' ?_ (holdsK_putRowK (enc:=encS) (k:=2) (Sort.ahead w n) g 0 L.toArray d' (holdsK_ahead (enc:=encS) (k:=2) w n g 0 L.toArray hH) (by simpa using hsize));unfold putRowK;rw[size_putRow];exact hg
  obtain⟨cur2,hc3,hc4⟩:∃cur2,(sortWorldK encS 2 w g 0 n d' os).heap[g]? =some (.cells cur2 48 (0,0))∧cur2.size=cur.size:=by
   unfold sortWorldK putRowK;rw[heap_grow_old _ _ (by rw[size_putRow];exact hg)];refine⟨putCells id 0 (flatK encS 2 d') cur,?_,by simp[putCells]⟩;simp[putRow,mapBlock,Sort.ahead,Array.getElem?_modify,hcur,onCells]
  unfold qa3;have hl2:d'.toList.length=L.length:=by rw[Array.length_toList,hsize]
  rw[hl2];show World.ownsRow _ base 48 2 (.slice (some ⟨g,0,none⟩) L.length cap) L.length _;have hlen:(qam d'.toList).length=L.length*2:=by rw[qaw,Array.length_toList,hsize]
  refine qdo hcb hc3 hc1 hc2 (by rw[hc4,hcs]) hlen (fun j hj=>?_);have hi:j/2<d'.size:=by omega
  have b:=(hHd.cell hi (show j%2<2 by omega)).1;obtain⟨a1,a2⟩:=qbk d'.toList (j/2) (by simpa using hi);rw[Nat.zero_add,show j/2*2+j%2=j by omega] at b;rw[b];rcases Nat.mod_two_eq_zero_or_one j with hm|hm
  ·rw[show j/2*2=j by omega] at a1
   rw[a1,hm];simp[encS,List.getD_eq_getElem?_getD,hi]
  ·rw[show j/2*2+1=j by omega] at a2
   rw[a2,hm];simp[encS,List.getD_eq_getElem?_getD,hi]
end Go.Proofs.YtdgoilkgplnhfaaGreat

