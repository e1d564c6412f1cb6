/-
  What kind a rune is, by contract. No condition.
-/
import Derived.Test.YtlmhofjiobmodaaGreatDoorProg
import Derived.WalkKit
import Derived.WalkLawsBesides
import Derived.Below
import Derived.OneCell
import Derived.Deep.QuietTactic
import Derived.BigQuiet
import Derived.Lib.SliceRun
import Derived.Laws.OwnMore
import Derived.Maps.AppendAt
import Derived.Deep.RegionHeld3
import Derived.OwnWalk
import Derived.ArgAppend
import Derived.Lib.Builder
import Derived.Lib.RuneBytes
import Derived.Laws.Rows
import Derived.BigCall
import Derived.Deep.DeepCutAuto
import Derived.Deep.CutBlock
set_option maxRecDepth 100000
set_option maxHeartbeats 16000000
namespace Go.Proofs.YtlmhofjiobmodaaGreatDoor
open Go.RowKit
def smB (r:Int):Bool:=decide (97≤r)&&decide (r≤122)
def grB (r:Int):Bool:=decide (65≤r)&&decide (r≤90)
def dgB (r:Int):Bool:=decide (48≤r)&&decide (r≤57)
def txB (r:Int):Bool:=decide (32≤r)&&decide (r≤126)
def esB (r:Int):Bool:=decide (r=34)||decide (r=92)
def blB (r:Int):Bool:=decide (r=32)||decide (r=9)||decide (r=10)||decide (r=13)
def goB (k:Int) (r:Int):Bool:=if k=2 then smB r||dgB r||decide (r=95)||decide (r=45) else if k=3 then grB r else dgB r||decide (r=46)||decide (r=47)
theorem qaa {P:Prop} (h:P):Hid P:=h
theorem qcm (r:Int) (w:World):Calls Tryz.prog 92 #[.int .i32 r] w fun e w'=>e=.returned (.bool (smB r))∧w'=w:=by
 by_cases h1:97≤r<;>by_cases h2:r≤122
 all_goals
  go_enter Tryz.func92,Tryz.ntmps92;go_wp2;go_ret;exact⟨by simp[smB,h1,h2],rfl⟩
theorem qd1 (r:Int) (w:World):Calls Tryz.prog 94 #[.int .i32 r] w fun e w'=>e=.returned (.bool (grB r))∧w'=w:=by
 by_cases h1:65≤r<;>by_cases h2:r≤90
 all_goals
  go_enter Tryz.func94,Tryz.ntmps94;go_wp2;go_ret;exact⟨by simp[grB,h1,h2],rfl⟩
theorem qd2 (r:Int) (w:World):Calls Tryz.prog 93 #[.int .i32 r] w fun e w'=>e=.returned (.bool (dgB r))∧w'=w:=by
 by_cases h1:48≤r<;>by_cases h2:r≤57
 all_goals
  go_enter Tryz.func93,Tryz.ntmps93;go_wp2;go_ret;exact⟨by simp[dgB,h1,h2],rfl⟩
theorem qk4 (r:Int) (w:World):Calls Tryz.prog 125 #[.int .i32 r] w fun e w'=>e=.returned (.bool (txB r))∧w'=w:=by
 by_cases h1:32≤r<;>by_cases h2:r≤126
 all_goals
  go_enter Tryz.func125,Tryz.ntmps125;go_wp2;go_ret;exact⟨by simp[txB,h1,h2],rfl⟩
theorem qmc (r:Int) (w:World):Calls Tryz.prog 91 #[.int .i32 r] w fun e w'=>e=.returned (.bool (esB r))∧w'=w:=by
 by_cases h1:r=34
 ·subst h1
  go_enter Tryz.func91,Tryz.ntmps91;go_wp2;go_ret;exact⟨by simp[esB],rfl⟩
 ·have e1:(r==34)=false:=by simp[h1]
  by_cases h2:r=92
  ·subst h2
   go_enter Tryz.func91,Tryz.ntmps91;go_wp2;go_ret;exact⟨by simp[esB],rfl⟩
  ·have e2:(r==92)=false:=by simp[h2]
   go_enter Tryz.func91,Tryz.ntmps91;go_wp2;go_ret;exact⟨by simp[esB,h1,h2],rfl⟩
theorem qfg (r:Int) (w:World):Calls Tryz.prog 101 #[.int .i32 r] w fun e w'=>e=.returned (.bool (blB r))∧w'=w:=by
 have key:r=32∨r=9∨r=10∨r=13∨(¬r=32∧¬r=9∧¬r=10∧¬r=13):=by omega
 rcases key with rfl|rfl|rfl|rfl|⟨h1,h2,h3,h4⟩
 all_goals
  go_enter Tryz.func101,Tryz.ntmps101;go_wp2;go_ret;exact⟨by simp_all [blB],rfl⟩
theorem qdt (k r:Int) (w:World):Calls Tryz.prog 61 #[.int .i64 k,.int .i32 r] w fun e w'=>e=.returned (.bool (goB k r))∧w'=w:=by
 have H1:=qaa (fun W=>qcm r W);have H2:=qaa (fun W=>qd2 r W);have H3:=qaa (fun W=>qd1 r W);have hs:∀b,Hid (smB r=b)→Hid (∀W,Calls Tryz.prog 92 #[.int .i32 r] W fun e w'=>e=.returned (.bool b)∧w'=W):=fun b h W=>by rw[←h.out];exact H1.out W
 have hd:∀b,Hid (dgB r=b)→Hid (∀W,Calls Tryz.prog 93 #[.int .i32 r] W fun e w'=>e=.returned (.bool b)∧w'=W):=fun b h W=>by rw[←h.out];exact H2.out W
 by_cases hk:k=2
 ·subst hk
  obtain⟨b1,e1⟩:∃b,Hid (smB r=b):=⟨_,rfl⟩;obtain⟨b2,e2⟩:∃b,Hid (dgB r=b):=⟨_,rfl⟩;have G1:=hs b1 e1;have G2:=hd b2 e2;have key:Hid (goB 2 r=(b1||b2||decide (r=95)||decide (r=45))):=by unfold Hid goB;rw[if_pos rfl,e1.out,e2.out]
  rw[key.out];clear hs hd H1 H2 H3 e1 e2 key;have kk:r=95∨r=45∨(¬r=95∧¬r=45):=by omega
  cases b1<;>cases b2<;>rcases kk with rfl|rfl|⟨h1,h2⟩
  all_goals
   go_enter Tryz.func61,Tryz.ntmps61;go_wp2_with (first|(go_at_call 92;refine(G1.out _).mono ?_;rintro e wz ⟨rfl,Ba⟩;have Ba:=Ba.symm;subst Ba)|(go_at_call 93;refine(G2.out _).mono ?_;rintro e wz ⟨rfl,Ba⟩;have Ba:=Ba.symm;subst Ba));go_ret;exact⟨by simp_all,rfl⟩
 ·have hk2:(k==2)=false:=by simp[hk]
  by_cases hk3:k=3
  ·subst hk3
   have key:Hid (goB 3 r=grB r):=by unfold Hid goB;rw[if_neg (by decide),if_pos rfl]
   rw[key.out];clear hs hd H1 H2 key;go_enter Tryz.func61,Tryz.ntmps61;go_wp2_with (go_at_call 94;refine(H3.out _).mono ?_;rintro e wz ⟨rfl,Ba⟩;have Ba:=Ba.symm;subst Ba);go_ret;exact⟨rfl,rfl⟩
  ·have hk4:(k==3)=false:=by simp[hk3]
   obtain⟨b2,e2⟩:∃b,Hid (dgB r=b):=⟨_,rfl⟩;have G2:=hd b2 e2;have key:Hid (goB k r=(b2||decide (r=46)||decide (r=47))):=by unfold Hid goB;rw[if_neg hk,if_neg hk3,e2.out]
   rw[key.out];clear hs hd H1 H2 H3 e2 key;have kk:r=46∨r=47∨(¬r=46∧¬r=47):=by omega
   cases b2<;>rcases kk with rfl|rfl|⟨h1,h2⟩
   all_goals
    go_enter Tryz.func61,Tryz.ntmps61;go_wp2_with (go_at_call 93;refine(G2.out _).mono ?_;rintro e wz ⟨rfl,Ba⟩;have Ba:=Ba.symm;subst Ba);go_ret;exact⟨by simp_all,rfl⟩
def qbt:List (List UInt8):=[[108,101,116],[97,108,108,111,119],[100,101,110,121],[119,104,101,110],[97,110,100],[111,114],[110,111,116],[116,114,117,101],[102,97,108,115,101],[105,110],[97,100,100,114],[112,111,114,116],[109,101,116,104,111,100],[112,97,116,104],[104,101,97,100,101,114],[104,97,115]]
def wdB (s:List UInt8):Bool:=qbt.contains s
theorem qgl (s:List UInt8) (w:World):Calls Tryz.prog 129 #[.string ⟨s.toArray⟩] w fun e w'=>e=.returned (.bool (wdB s))∧w'=w:=by
 cases hb:wdB s with
 |true=>
  have hm:s∈qbt:=by simpa [wdB] using hb
  simp only[qbt,List.mem_cons,List.not_mem_nil,or_false] at hm;clear hb;rcases hm with rfl|rfl|rfl|rfl|rfl|rfl|rfl|rfl|rfl|rfl|rfl|rfl|rfl|rfl|rfl|rfl
  all_goals
   go_enter Tryz.func129,Tryz.ntmps129;go_wp2;go_ret;exact⟨rfl,rfl⟩
 |false=>
  have hm:∀t∈qbt,¬s=t:=fun t ht e=>by
   rw[wdB,e] at hb;simp[ht] at hb
  simp only[qbt,List.mem_cons,List.not_mem_nil,or_false,forall_eq_or_imp,forall_eq] at hm;clear hb;obtain⟨h1,h2,h3,h4,h5,h6,h7,h8,h9,h10,h11,h12,OW,OX,OY,h16⟩:=hm;have g1:(s==[108,101,116])=false:=by simpa using h1
  have g2:(s==[97,108,108,111,119])=false:=by simpa using h2
  have g3:(s==[100,101,110,121])=false:=by simpa using h3
  have g4:(s==[119,104,101,110])=false:=by simpa using h4
  have g5:(s==[97,110,100])=false:=by simpa using h5
  have g6:(s==[111,114])=false:=by simpa using h6
  have g7:(s==[110,111,116])=false:=by simpa using h7
  have g8:(s==[116,114,117,101])=false:=by simpa using h8
  have g9:(s==[102,97,108,115,101])=false:=by simpa using h9
  have g10:(s==[105,110])=false:=by simpa using h10
  have g11:(s==[97,100,100,114])=false:=by simpa using h11
  have g12:(s==[112,111,114,116])=false:=by simpa using h12
  have g13:(s==[109,101,116,104,111,100])=false:=by simpa using OW
  have g14:(s==[112,97,116,104])=false:=by simpa using OX
  have g15:(s==[104,101,97,100,101,114])=false:=by simpa using OY
  have g16:(s==[104,97,115])=false:=by simpa using h16
  clear h1 h2 h3 h4 h5 h6 h7 h8 h9 h10 h11 h12 OW OX OY h16;go_enter Tryz.func129,Tryz.ntmps129;go_wp2;go_ret;exact⟨rfl,rfl⟩
end Go.Proofs.YtlmhofjiobmodaaGreatDoor
namespace Go.Proofs.YtlmhofjiobmodaaGreatDoor
open Go.RowKit Go.Lib
structure Kept (F:Nat→Prop) (w w':World):Prop where
 os:w'.os=w.os
 tape:w'.tape=w.tape
 output:w'.output=w.output
 size:w.heap.size≤w'.heap.size
 block:∀k,k<w.heap.size→¬F k→w'.heap[k]? =w.heap[k]?
theorem Kept.refl (F:Nat→Prop) (w:World):Kept F w w:=⟨rfl,rfl,rfl,Nat.le_refl _,fun _ _ _=>rfl⟩
theorem Kept.trans {F:Nat→Prop} {a b c:World} (h:Kept F a b) (k:Kept F b c):Kept F a c:=
 ⟨k.os.trans h.os,k.tape.trans h.tape,k.output.trans h.output,Nat.le_trans h.size k.size,fun i hi hf=>(k.block i (Nat.lt_of_lt_of_le hi h.size) hf).trans (h.block i hi hf)⟩
theorem Kept.trans_new {F G:Nat→Prop} {a b c:World} (h:Kept F a b) (k:Kept G b c) (hG:∀i,i<a.heap.size→G i→F i):Kept F a c:=
 ⟨k.os.trans h.os,k.tape.trans h.tape,k.output.trans h.output,Nat.le_trans h.size k.size,fun i hi hf=>(k.block i (Nat.lt_of_lt_of_le hi h.size) (fun hg=>hf (hG i hi hg))).trans (h.block i hi hf)⟩
theorem Kept.mono {F G:Nat→Prop} {a b:World} (h:Kept F a b) (hG:∀i,F i→G i):Kept G a b:=
 ⟨h.os,h.tape,h.output,h.size,fun i hi hf=>h.block i hi (fun hg=>hf (hG i hg))⟩
theorem Kept.of_below {F:Nat→Prop} {a b:World} (h:Below a.heap.size a b):Kept F a b:=
 ⟨h.os,h.tape,h.output,h.size,fun i hi _=>h.block i hi⟩
theorem Kept.below {F:Nat→Prop} {B:Nat} {a b:World} (h:Kept F a b) (hB:B≤a.heap.size) (hF:∀i,F i→B≤i):Below B a b:=
 ⟨h.os,h.tape,h.output,h.size,fun i hi=>h.block i (by omega) (fun hf=>by have:=hF i hf;omega)⟩
theorem Kept.setCell {F:Nat→Prop} {a w:World} (h:Kept F a w) {p:Addr} (hp:F p.block) (u:Value):Kept F a (w.setCell p u):=
 h.trans ⟨rfl,rfl,rfl,by simp[World.setCell],fun k _ hf=>Below.heap_setCell _ _ _ _ (fun e=>hf (e▸hp))⟩
theorem Kept.drew {F:Nat→Prop} {a w:World} (h:Kept F a w):Kept F a w.drew:=⟨h.os,h.tape,h.output,h.size,h.block⟩
theorem Kept.grown {F:Nat→Prop} {a w w':World} {row:Option Nat} (h:Kept F a w) (hg:w.grownBy w' row) (hr:∀k,row=some k→F k):Kept F a w':=
 h.trans ⟨hg.os,hg.tape,hg.output,hg.size,fun k hk hf=>hg.block k hk (fun e=>hf (hr k e.symm))⟩
section
variable {P:Program} {ops:Array Oper} {C:World→Prop} {Q:Act→Prop}
structure QW (P:Program) (ops:Array Oper) (C:World→Prop) (Q:Act→Prop) (l:List Oper) (a:Act):Prop where
 out:wpQuiet P ops C Q l a
theorem QW.skip {o:Oper} {rest:List Oper} {a:Act} (hw:Region.wanted o (yielded ops a.tmps)=false) (h:QW P ops C Q rest (a.put o.dst undef)):QW P ops C Q (o::rest) a:=
 ⟨wpQuiet_step fun K hK=>by rw[hw];exact hK _ h.out⟩
theorem QW.take {o:Oper} {rest:List Oper} {a:Act} (hw:Region.wanted o (yielded ops a.tmps)=true) (h:∃v,(∀w,C w→o.quietAt P a C w v)∧QW P ops C Q rest (a.put o.dst v)):QW P ops C Q (o::rest) a:=
 ⟨wpQuiet_step fun K hK=>by rw[hw];obtain⟨v,h1,h2⟩:=h;exact⟨v,h1,hK _ h2.out⟩⟩
theorem QW.nil {a:Act} (h:Q a):QW P ops C Q [] a:=⟨wpQuiet_nil h⟩
end
structure LD where
 v:Value
 n:Nat
theorem own_below {w w':World} {base size n:Nat} {e:TypeId} {v:Value} {xs:List Value} (h:w.ownsRow base e size v n xs) (hb:Below w.heap.size w w'):w'.ownsRow base e size v n xs:=by
 refine⟨h.1,?_⟩;rcases h.2 with hn|⟨g,cap,cur,rfl,hb',hg,r⟩
 ·exact .inl hn
 ·exact .inr ⟨g,cap,cur,rfl,hb',(hb.block g (lt_of_block hg)).trans hg,r⟩
theorem qai {F:Nat→Prop} {w w':World} {base size n:Nat} {e:TypeId} {v:Value} {xs:List Value} (h:w.ownsRow base e size v n xs) (hk:Kept F w w') (hF:∀k,v.ownBlock=some k→¬F k):w'.ownsRow base e size v n xs:=by
 refine⟨h.1,?_⟩;rcases h.2 with hn|⟨g,cap,cur,rfl,hb',hg,r⟩
 ·exact .inl hn
 ·exact .inr ⟨g,cap,cur,rfl,hb',(hk.block g (lt_of_block hg) (hF g rfl)).trans hg,r⟩
theorem qc6 {w:World} {base base' size n:Nat} {e:TypeId} {v:Value} {xs:List Value} (h:w.ownsRow base e size v n xs) (hb:base'≤base):w.ownsRow base' e size v n xs:=by
 refine⟨h.1,?_⟩;rcases h.2 with hn|⟨g,cap,cur,rfl,hb',r⟩
 ·exact .inl hn
 ·exact .inr ⟨g,cap,cur,rfl,Nat.le_trans hb hb',r⟩
theorem qae {w w':World} {r:Option Nat} (h:w.grownBy w' r):Kept (fun k=>r=some k) w w':=(Kept.refl _ _).grown h (fun _ hk=>hk)
theorem qca {w w':World} (h:w.grownBy w' none):Below w.heap.size w w':=(Below.refl _ _).grown h (Nat.le_refl _) (fun k hk=>by cases hk)
def qfh (w w':World) (v v':Value):Prop:=(∃g,v.ownBlock=some g∧v'.ownBlock=some g∧w.grownBy w' (some g))∨(w.grownBy w' none∧∀k,v'.ownBlock=some k→w.heap.size≤k)
theorem qa3 {P:Program} {w:World} {ops:Array Oper} {rest:List Oper} {o:Oper} {a:Act} {Q:Exit→Act→World→Prop} (hgd:o.guard=none) (s x:Operand) (t:TypeId)
 (ho:o.op=.call { callee:=.builtin .append,args:=#[s,x],argTypes:=#[t,t] })
 (base:Nat) (e:TypeId) (i:TypeInfo) (z:Value) (size bytes:Nat) (ht:P.underlying t=some (.slice e)) (hi:P.info? e=some i) (hz:i.zero=some z)
 (hsize:i.size=size) (hby:i.bytes=bytes) (hzs:z.cells.size=size) (hsz:0<size)
 (v:Value) (n:Nat) (xs:List Value) (hs:a.eval s=v) (hown:w.ownsRow base e size v n xs)
 (ad:Addr) (m c:Nat) (news:List Value) (hx:a.eval x=.slice (some ad) m c) (hl:news.length=m*size) (hnews:∀j u,news[j]? =some u→w.cell? (ad.add j)=some u) (h1:∀u∈news,u.oneCell'=true)
 (hm:0<m) (h63:n+m≤maxLen) (hbytes:(n+m)*bytes≤140737488355328) (hbase:base≤w.heap.size)
 (h:∀v' w',w'.ownsRow base e size v' (n+m) (xs++news)→qfh w w' v v'→wpList P ops Q rest (a.put o.dst v') w'):
 wpList P ops Q (o::rest) a w:=by
 rcases hown.2 with⟨rfl,rfl⟩|⟨g,cap,cur,rfl,hb,hg,hnc,hcm,hcs,htake⟩
 ·have hx0:xs=[]:=List.eq_nil_of_length_eq_zero (by simpa using hown.1)
  subst hx0;refine wpList_append_grows w hgd s x t ho e i z size bytes ht hi hz hsize hby hzs hsz none 0 0 [] hs (fun _=>⟨rfl,rfl⟩) (by simp) (fun b hb=>by cases hb) ad m c news hx hl hnews h1 (by omega) h63 hbytes ?_;intro v' w' r1 r2;exact h v' w' (qc6 r1 hbase) (.inr ⟨r2,fun k hk=>(World.ownsRow.lt r1 k hk).1⟩)
 ·by_cases hr:n+m≤cap
  ·refine wpList_append_fits w hgd s x t ho base e i size ht hi hsize g n cap xs hs hown ad m c news hx hl hnews h1 hr ?_
   intro w' r1 r2;exact h _ w' r1 (.inl ⟨g,rfl,rfl,r2⟩)
  ·refine wpList_append_grows w hgd s x t ho e i z size bytes ht hi hz hsize hby hzs hsz (some ⟨g,0,none⟩) n cap xs hs (fun h=>by cases h) hown.1 (fun b hb=>by cases hb;exact hown.cells (g:=g) rfl) ad m c news hx hl hnews h1 (by omega) h63 hbytes ?_
   intro v' w' r1 r2;exact h v' w' (qc6 r1 hbase) (.inr ⟨r2,fun k hk=>(World.ownsRow.lt r1 k hk).1⟩)
theorem qaw {w:World} {base size n:Nat} {e:TypeId} {v:Value} {xs:List Value} (h:w.ownsRow base e size v n xs) (k:Nat) (hk:v.ownBlock=some k):∃cs,w.heap[k]? =some (.cells cs e (0,0)):=by
 rcases h.2 with⟨rfl,hn⟩|⟨g,cap,cur,rfl,hb,hg,r⟩
 ·cases hk
 ·cases hk
  exact⟨cur,hg⟩
theorem qad {w:World} {base size n:Nat} {e:TypeId} {v:Value} {xs:List Value} (h:w.ownsRow base e size v n xs):∃ao cap,v=.slice ao n cap∧(0<n→∃g,ao=some ⟨g,0,none⟩):=by
 rcases h.2 with⟨rfl,hn⟩|⟨g,cap,cur,rfl,hb,hg,r⟩
 ·exact⟨none,0,by rw[hn],fun h=>by omega⟩
 ·exact⟨_,cap,rfl,fun _=>⟨g,rfl⟩⟩
section
variable {TS T:TypeId} {sz:Nat} {mc:Nat→List Value}
end
theorem bt {N:Nat} {a b c:World} (h:Below N a b) (k:Below b.heap.size b c) (hN:N≤a.heap.size):Below N a c:=h.trans (k.mono (Nat.le_trans hN h.size))
theorem al {w w':World} (h:Below w.heap.size w w') (o:Obj):Below w.heap.size w (w'.alloc o):=h.alloc h.size o
theorem qqu:(Tryz.prog.info? 87).map (·.size)=some 2:=by kernel_rfl
theorem Tryz.info5n:(Tryz.prog.info? 5).map (fun i=>(i.zero,i.size,i.bytes))=some (some (.int .u8 0),1,1):=by kernel_rfl
theorem qhu (b o:Nat) (w:World) (h0:w.cell? ⟨b,o,none⟩=some (.pointer (some ⟨b,o,none⟩))):
 Calls Tryz.prog 153 #[.pointer (some ⟨b,o,none⟩)] w fun e w'=>e=.returned (.tuple #[])∧w'=w:=by
 obtain⟨j,hj,_⟩:=Option.map_eq_some_iff.1 qqu;go_enter Tryz.func153,Tryz.ntmps153;go_wp2;rw[Lib.run_neq_ptr_same w _ Tryz.underlying85 hj];go_wp2;go_end0;exact⟨rfl,rfl⟩
theorem qg1 (b o n:Nat) (e:TypeId) (w:World) (h0:w.cell? ⟨b,o,none⟩=some (.pointer none)) (hsh:w.shape? b=some (e,n)) (ho:o<n) (hl:liesAt Tryz.prog Tryz.prog.depth e (n/Tryz.prog.cellsOf e) o 87 1=true) (hfz:w.frozen? ⟨b,o,none⟩=false):
 Calls Tryz.prog 153 #[.pointer (some ⟨b,o,none⟩)] w fun e w'=>e=.returned (.tuple #[])∧w'=w.setCell ⟨b,o,none⟩ (.pointer (some ⟨b,o,none⟩)):=by
 obtain⟨j,hj,hjs⟩:=Option.map_eq_some_iff.1 qqu;go_enter Tryz.func153,Tryz.ntmps153;go_wp2;rw[Lib.run_to_unsafe w ⟨b,o,none⟩ Tryz.underlying85 Tryz.underlying204 hj (by rw[hjs];decide) hsh ho];simp only[Result.andThen];rw[Oper.upon_value];go_wp2;rw[run_callFunc_extern Tryz.func185 (by kernel_rfl) (by kernel_rfl) (by kernel_rfl) (e:=Extern.AbiNoEscape.same) (by kernel_rfl)];rw[Lib.run_noEscape];simp only[Result.andThen];rw[Oper.upon_value];go_wp2;rw[Lib.run_from_unsafe w ⟨b,o,none⟩ Tryz.underlying204 Tryz.underlying85 hj hsh hl];simp only[Result.andThen];rw[Oper.upon_value];go_wp2;go_end0;exact⟨rfl,rfl⟩
theorem qab {w:World} {b:Nat} {cs:Array Value} {t:TypeId} {fr:Nat×Nat} (h:w.heap[b]? =some (.cells cs t fr)) (j:Nat) (u:Value):(w.setCell ⟨b,j,none⟩ u).heap[b]? =some (.cells (cs.set! j u) t fr):=by
 have hlt:=lt_of_block h;have h':w.heap[b]=.cells cs t fr:=by simpa [Array.getElem?_eq_getElem hlt] using h
 show(w.heap.modify b _)[b]? =_;rw[Array.getElem?_eq_getElem (by simpa using hlt),Array.getElem_modify_self,h'];rfl
def KpO (e:TypeId) (base b:Nat) (w w':World):Prop:=Kept (fun k=>k=b∨base≤k∧∃c f,w.heap[k]? =some (.cells c e f)) w w'
section
variable {t:TypeId} {base:Nat}
theorem KpO.refl (b:Nat) (w:World):KpO t base b w w:=Kept.refl _ _
theorem KpO.trans {b:Nat} {u v w:World} (h:KpO t base b u v) (k:KpO t base b v w):KpO t base b u w:=by
 refine Kept.trans_new h k (fun i hi hG=>?_);rcases hG with rfl|⟨hb,c,f,hc⟩
 ·exact .inl rfl
 ·by_cases hF:i=b∨base≤i∧∃c f,u.heap[i]? =some (.cells c t f)
  ·exact hF
  ·rw[h.block i hi hF] at hc
   exact .inr ⟨hb,c,f,hc⟩
theorem KpO.set {b o:Nat} {w:World} (v:Value):KpO t base b w (w.setCell ⟨b,o,none⟩ v):=(Kept.refl _ w).setCell (p:=⟨b,o,none⟩) (.inl rfl) v
theorem KpO.app {b size n:Nat} {w w5 w':World} {v v':Value} {xs:List Value} (x:Below w.heap.size w w5) (ho:w.ownsRow base t size v n xs) (h:qfh w5 w' v v'):KpO t base b w w':=by
 rcases h with⟨g,h1,h2,h3⟩|⟨h1,h2⟩
 ·obtain⟨cs,hc⟩:=qaw ho g h1
  have k:=qae h3;refine Kept.trans_new (F:=fun k=>k=b∨base≤k∧∃c f,w.heap[k]? =some (.cells c t f)) (Kept.of_below x) k (fun i hi hG=>?_);have:g=i:=by simpa using hG
  subst this;exact .inr ⟨(World.ownsRow.lt ho g h1).1,cs,_,hc⟩
 ·exact Kept.of_below (bt x (qca h1) (Nat.le_refl _))
theorem KpO.own {b base' size n:Nat} {w w':World} {e:TypeId} {v:Value} {xs:List Value} (h:KpO t base b w w') (ho:w.ownsRow base' e size v n xs) (he:e≠t) (hb:∀k,v.ownBlock=some k→¬k=b):w'.ownsRow base' e size v n xs:=
 qai ho h (fun k hk e'=>by
  rcases e' with e'|⟨_,c,f,e'⟩
  ·exact hb k hk e'
  ·obtain⟨c',hc⟩:=qaw ho k hk
   rw[hc] at e';injection e' with e'
   injection e' with _ e' _
   exact he e')
end
structure BuB (w:World) (base b o:Nat) (e:TypeId) (cs:Array Value) (l:List UInt8):Prop where
 blk:w.heap[b]? =some (.cells cs e (0,0))
 ge:base≤b
 ho:o+1<cs.size
 lies:liesAt Tryz.prog Tryz.prog.depth e (cs.size/Tryz.prog.cellsOf e) o 87 1=true
 ne:e≠5∧e≠49
 ad:cs[o]? =some (.pointer none)∨cs[o]? =some (.pointer (some ⟨b,o,none⟩))
 row:∃v,cs[o+1]? =some v∧w.ownsRow base 5 1 v l.length (Lib.byteCells l)
section
variable {w w':World} {base b o:Nat} {e:TypeId} {cs:Array Value} {l:List UInt8}
theorem BuB.apart (h:BuB w base b o e cs l) {size n:Nat} {t:TypeId} {v:Value} {xs:List Value} (hv:w.ownsRow base t size v n xs) (ht:t=5∨t=49) (k:Nat) (hk:v.ownBlock=some k):¬k=b:=fun e'=>by
 obtain⟨c,hc⟩:=qaw hv k hk;rw[e',h.blk] at hc;injection hc with hc
 injection hc with _ hc _
 rcases ht with rfl|rfl
 ·exact h.ne.1 hc
 ·exact h.ne.2 hc
theorem BuB.shape (h:BuB w base b o e cs l):w.shape? b=some (e,cs.size):=by simp[World.shape?,h.blk]
theorem BuB.copy (h:BuB w base b o e cs l) (hb:base≤w.heap.size):
 Calls Tryz.prog 153 #[.pointer (some ⟨b,o,none⟩)] w fun x w'=>x=.returned (.tuple #[])∧BuB w' base b o e (cs.set! o (.pointer (some ⟨b,o,none⟩))) l∧KpO 5 base b w w'∧w'.heap.size=w.heap.size:=by
 obtain⟨v,hv,hr⟩:=h.row;have hcell:w.cell? ⟨b,o,none⟩=cs[o]? :=cell_of_row _ _ _ _ _ _ h.blk;rcases h.ad with ha|ha
 ·refine(qg1 b o cs.size e w (hcell.trans ha) h.shape (by have:=h.ho;omega) h.lies (frozen_of_row _ _ _ _ _ h.blk)).mono ?_
  rintro x w' ⟨rfl,rfl⟩;have kk:KpO 5 base b w (w.setCell ⟨b,o,none⟩ (.pointer (some ⟨b,o,none⟩))):=KpO.set _;refine⟨rfl,⟨?_,h.ge,by simpa using h.ho,by simpa using h.lies,h.ne,.inr ?_,v,?_,?_⟩,kk,by simp⟩
  ·have:=qab h.blk o (.pointer (some ⟨b,o,none⟩))
   exact this
  ·have:=h.ho
   simp[Array.set!_eq_setIfInBounds,show o<cs.size by omega]
  ·simp[Array.set!_eq_setIfInBounds,Array.getElem?_setIfInBounds_ne (show o≠o+1 by omega),hv]
  ·exact qai (F:=fun k=>k=b) hr ((Kept.refl (fun k=>k=b) w).setCell (p:=⟨b,o,none⟩) rfl _) (fun k hk=>h.apart hr (.inl rfl) k hk)
 ·refine(qhu b o w (hcell.trans ha)).mono ?_
  rintro x w' ⟨rfl,rfl⟩;have e1:cs.set! o (.pointer (some ⟨b,o,none⟩))=cs:=by
   rw[Array.set!_eq_setIfInBounds];apply Array.ext_getElem?;intro i;by_cases hi:o=i
   ·subst hi
    have:=h.ho;rw[ha];simp[show o<cs.size by omega]
   ·rw[Array.getElem?_setIfInBounds_ne hi]
  refine⟨rfl,?_,KpO.refl _ _,rfl⟩;rw[e1];exact h
theorem BuB.cells (h:BuB w base b o e cs l):w.cell? ⟨b,o,none⟩=cs[o]? ∧w.cell? ⟨b,o+1,none⟩=cs[o+1]? ∧w.frozen? ⟨b,o,none⟩=false∧w.frozen? ⟨b,o+1,none⟩=false:=
 ⟨cell_of_row _ _ _ _ _ _ h.blk,cell_of_row _ _ _ _ _ _ h.blk,frozen_of_row _ _ _ _ _ h.blk,frozen_of_row _ _ _ _ _ h.blk⟩
theorem BuB.put (h:BuB w base b o e cs l) {w5 w6:World} {v v':Value} {l':List UInt8} (x:Below w.heap.size w w5) (h1:w6.ownsRow base 5 1 v' l'.length (Lib.byteCells l')) (h2:qfh w5 w6 v v') (hr:w.ownsRow base 5 1 v l.length (Lib.byteCells l)):
 BuB (w6.setCell ⟨b,o+1,none⟩ v') base b o e (cs.set! (o+1) v') l'∧KpO 5 base b w (w6.setCell ⟨b,o+1,none⟩ v')∧w6.heap[b]? =some (.cells cs e (0,0)):=by
 have k1:KpO 5 base b w w6:=KpO.app x hr h2;have hlt:=lt_of_block h.blk;have hB6:w6.heap[b]? =some (.cells cs e (0,0)):=by
  rcases h2 with⟨g,g1,g2,g3⟩|⟨g1,g2⟩
  ·have hne:=h.apart hr (.inl rfl) g g1
   have hb5:w5.heap[b]? =some (.cells cs e (0,0)):=(x.block b hlt).trans h.blk;exact((qae g3).block b (lt_of_block hb5) (fun e'=>by injection e' with e';exact hne e')).trans hb5
  ·have hb5:w5.heap[b]? =some (.cells cs e (0,0)):=(x.block b hlt).trans h.blk
   exact((qca g1).block b (lt_of_block hb5)).trans hb5
 have hap:∀k,v'.ownBlock=some k→¬k=b:=fun k hk e'=>by
  obtain⟨c,hc⟩:=qaw h1 k hk;rw[e',hB6] at hc;injection hc with hc
  injection hc with _ hc _
  exact h.ne.1 hc
 refine⟨⟨qab hB6 _ _,h.ge,by simpa using h.ho,by simpa using h.lies,h.ne,?_,v',?_,?_⟩,k1.trans (KpO.set _),hB6⟩
 ·rw[Array.set!_eq_setIfInBounds,Array.getElem?_setIfInBounds_ne (show o+1≠o by omega)]
  exact h.ad
 ·have:=h.ho
  simp[Array.set!_eq_setIfInBounds,this]
 ·exact qai (F:=fun k=>k=b) h1 ((Kept.refl (fun k=>k=b) w6).setCell (p:=⟨b,o+1,none⟩) rfl _) hap
theorem qfc (w:World) (c:UInt8):∀(j:Nat) (u:Value),[Value.int .u8 (c.toNat:Int)][j]? =some u→(w.alloc (.cells #[.int .u8 (c.toNat:Int)] 5)).cell? ((⟨w.heap.size,0,none⟩:Addr).add j)=some u:=fun j u hu=>by
 have hB:=heap_alloc_new w (.cells #[.int .u8 (c.toNat:Int)] 5);rw[show(⟨w.heap.size,0,none⟩:Addr).add j=⟨w.heap.size,0+j,none⟩ by unfold Addr.add;split<;>simp_all,cell_of_row _ _ _ _ _ _ hB];simpa using hu
theorem BuB.byte (h:BuB w base b o e cs l) (c:UInt8) (hb:base≤w.heap.size) (hl:l.length≤140737488351232):
 Calls Tryz.prog 134 #[.pointer (some ⟨b,o,none⟩),.int .u8 (c.toNat:Int)] w fun x w'=>x=.returned .nilIface∧(∃v',BuB w' base b o e ((cs.set! o (.pointer (some ⟨b,o,none⟩))).set! (o+1) v') (l++[c]))∧KpO 5 base b w w':=by
 obtain⟨i5,hi5,En,Eo,Ep⟩:=info_parts Tryz.info5n;have HC:=qaa (h.copy hb);clear h;go_enter Tryz.func134,Tryz.ntmps134;go_upto_region 2 with(go_at_call 153;refine HC.out.mono ?_;rintro x w1 ⟨rfl,h1,k1,hs1⟩;have HB:=qaa h1;have HK:=qaa k1;have HS:=qaa hs1;clear h1 k1 hs1)
 clear HC;obtain⟨v,hv,hr⟩:=HB.out.row;obtain⟨d0,d1,d2,d3⟩:=HB.out.cells;rw[hv] at d1;have HV:=qaa hv;have HR:=qaa hr;have P1:=qaa (own_below hr (al (Below.refl _ _) (.cells #[.int .u8 (c.toNat:Int)] 5)));have P2:=qaa (qfc w1 c);have P3:Hid (base≤(w1.alloc (.cells #[.int .u8 (c.toNat:Int)] 5)).heap.size):=by
  have:=(al (Below.refl w1.heap.size w1) (.cells #[.int .u8 (c.toNat:Int)] 5)).size;have h2:=HS.out;unfold Hid;omega
 have Ed:Hid (∀v' w6,w6.ownsRow base 5 1 v' (l.length+1) (Lib.byteCells l++[.int .u8 (c.toNat:Int)])→qfh (w1.alloc (.cells #[.int .u8 (c.toNat:Int)] 5)) w6 v v'→BuB (w6.setCell ⟨b,o+1,none⟩ v') base b o e ((cs.set! o (.pointer (some ⟨b,o,none⟩))).set! (o+1) v') (l++[c])∧KpO 5 base b w1 (w6.setCell ⟨b,o+1,none⟩ v')∧w6.frozen? ⟨b,o+1,none⟩=false∧(∃y,w6.cell? ⟨b,o+1,none⟩=some y)):=fun v' w6 q1 q2=>by
  have e1:Lib.byteCells l++[.int .u8 (c.toNat:Int)]=Lib.byteCells (l++[c]):=by simp[Lib.byteCells]
  have:=HB.out.put (l':=l++[c]) (al (Below.refl _ _) _) (by rw[←e1];simpa using q1) q2 HR.out;have hc:=cell_of_row _ _ (o+1) _ _ _ this.2.2;rw[HV.out] at hc;exact⟨this.1,this.2.1,frozen_of_row _ _ _ _ _ this.2.2,v,hc⟩
 clear hr hv;go_wp2_with (at_builtin;refine qa3 rfl (.tmp 11) (.tmp 13) 64 rfl base 5 i5 (.int .u8 0) 1 1 Tryz.underlying64 hi5 En Eo Ep rfl (by decide) _ l.length _ rfl P1.out ⟨w1.heap.size,0,none⟩ 1 1 [(.int .u8 (c.toNat:Int))] rfl rfl P2.out (by simp[Value.oneCell']) (by decide) (by unfold maxLen;omega) (by omega) P3.out ?_;intro v6 w6 q1 q2;obtain⟨ao6,cp6,Ld,_⟩:=qad q1;subst Ld;obtain⟨hB,hK,hF,y,hy⟩:=Ed.out _ w6 q1 q2;have HB2:=qaa hB;have Bn:=qaa hK;clear q1 q2 hB hK);go_ret;exact⟨rfl,⟨_,HB2.out⟩,HK.out.trans Bn.out⟩
end
end Go.Proofs.YtlmhofjiobmodaaGreatDoor

